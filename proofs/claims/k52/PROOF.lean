import PyProof.Rows.All
import Wide.All
import OpenK.AllK
import Wide.FinOn
import Lean
import PyProof.EqAt
import PyProof.EqKinds
import PyProof.TupleCall
import PySem.Challenge.RW_thinwood_k52_hands_apart
set_option Elab.async false
set_option linter.all false
set_option maxRecDepth 100000
namespace L2
open PySem PySem.Spec PyProof.Rows
abbrev Key := Sum Int Str
def CJ : Key → Value → Bool
 | .inl k, v => Value.isInt k v
 | .inr x, v => Value.isStrOf x v
def Ga (w : World) : Key → Int
 | .inl k => hashInt k
 | .inr x => hashStr w x
theorem b8 : ∀ {k : Key} {v : Value}, CJ k v = true → (∃ i t, k = Sum.inl i ∧ v = Value.int i t) ∨ (∃ x t, k = Sum.inr x ∧ v = Value.str x t)
 | .inl i, v, h => by
  obtain ⟨t, e⟩ := Value.isInt_shape (k := i) (v := v) h
  exact .inl ⟨i, t, rfl, e⟩
 | .inr x, v, h => by
  obtain ⟨t, e⟩ := Value.isStrOf_shape (x := x) (v := v) h
  exact .inr ⟨x, t, rfl, e⟩
theorem El (a b : Int) : decide ((Sum.inl a : Key) = Sum.inl b) = (a == b) := by
 by_cases e : a = b
 ·subst e; simp
 ·have h : ¬ (Sum.inl a : Key) = Sum.inl b := fun q => e (Sum.inl.inj q)
  rw [decide_eq_false h]
  exact (beq_eq_false_iff_ne.mpr e).symm
theorem Ej (a b : Str) : decide ((Sum.inr a : Key) = Sum.inr b) = decide (a = b) := by
 by_cases e : a = b
 ·subst e; simp
 ·have h : ¬ (Sum.inr a : Key) = Sum.inr b := fun q => e (Sum.inr.inj q)
  rw [decide_eq_false h, decide_eq_false e]
theorem Eo (a : Int) (b : Str) : decide ((Sum.inl a : Key) = Sum.inr b) = false := decide_eq_false (fun q => nomatch q)
theorem Ec (a : Str) (b : Int) : decide ((Sum.inr a : Key) = Sum.inl b) = false := decide_eq_false (fun q => nomatch q)
def xM (prog : Program) (w : World) : PySem.KeyKind prog w Key where
 is := CJ
 hash := Ga w
 inj := fun v a b ha hb => by
  rcases b8 ha with ⟨i, t, rfl, rfl⟩ | ⟨x, t, rfl, rfl⟩
  ·rcases b8 hb with ⟨j, u, rfl, e⟩ | ⟨y, u, rfl, e⟩
   ·injection e with e1 _; rw [e1]
   ·exact nomatch e
  ·rcases b8 hb with ⟨j, u, rfl, e⟩ | ⟨y, u, rfl, e⟩
   ·exact nomatch e
   ·injection e with e1 _; rw [e1]
 byValue := fun k v h => by
  rcases b8 h with ⟨i, t, rfl, rfl⟩ | ⟨x, t, rfl, rfl⟩ <;> rfl
 pyHash := fun hv h => by
  rcases b8 hv with ⟨i, t, rfl, rfl⟩ | ⟨x, t, rfl, rfl⟩
  ·exact wpAny_pyHash_int h
  ·exact wpAny_pyHash_str h
 eqBool := fun hu hv h => by
  rcases b8 hu with ⟨i, t, rfl, rfl⟩ | ⟨x, t, rfl, rfl⟩
  ·rcases b8 hv with ⟨j, u, rfl, rfl⟩ | ⟨y, u, rfl, rfl⟩
   ·rw [El] at h; exact wpAny_eqBool_int h
   ·rw [Eo] at h; exact SeqAt.EqAt.int_str i t y u _ _ _ _ h
  ·rcases b8 hv with ⟨j, u, rfl, rfl⟩ | ⟨y, u, rfl, rfl⟩
   ·rw [Ec] at h; exact SeqAt.EqAt.str_int x t j u _ _ _ _ h
   ·rw [Ej] at h; exact wpAny_eqBool_str h
 «strs» := fun k x t v h => by
  rcases b8 h with ⟨i, u, rfl, e⟩ | ⟨y, u, rfl, e⟩
  ·exact nomatch e
  ·injection e with e1 _
   subst e1
   cases v <;> rfl
end L2
namespace L2
open PySem PySem.Spec PyProof.Rows
inductive V where
 | non | bl (b : Bool) | int (i : Int) | str (x : Str) | byt (b : Array UInt8) | flt (b : UInt64) | ref (a : Addr) | ty (n : String)
 deriving DecidableEq
def RelV : V → Value → Prop
 | .non, u => u = Value.none
 | .bl b, u => u = Value.bool b
 | .int i, u => ∃ t, u = Value.int i t
 | .str x, u => ∃ t, u = Value.str x t
 | .byt b, u => ∃ t, u = Value.bytes b t
 | .flt b, u => ∃ t, u = Value.float b t
 | .ref a, u => u = Value.ref a
 | .ty n, u => u = Value.type n
abbrev Vals : List V → List Value → Prop := Paired RelV
theorem Vals.length {xs : List V} {us : List Value} (r : Vals xs us) : xs.length = us.length := Paired.length r
theorem Vals.get : ∀ {xs : List V} {us : List Value} {i : Nat} {x : V}, Vals xs us → xs[i]? = some x → ∃ u, us[i]? = some u ∧ RelV x u
 | _, _, _, _, .nil, e => by simp at e
 | _, _, 0, _, .cons r _, e => by simp at e; subst e; exact ⟨_, rfl, r⟩
 | _, _, i + 1, x, .cons _ t, e => by
  obtain ⟨u, h1, h2⟩ := Vals.get (i := i) (x := x) t (by simpa using e)
  exact ⟨u, by simpa using h1, h2⟩
theorem Vals.set {x : V} {u : Value} (r : RelV x u) : ∀ {xs : List V} {us : List Value} (i : Nat), Vals xs us → Vals (xs.set i x) (us.set i u)
 | _, _, _, .nil => .nil
 | _, _, 0, .cons _ t => .cons r t
 | _, _, i + 1, .cons q t => .cons q (Vals.set r i t)
theorem Vals.append : ∀ {xs ys : List V} {us ws : List Value}, Vals xs us → Vals ys ws → Vals (xs ++ ys) (us ++ ws)
 | _, _, _, _, .nil, s => s
 | _, _, _, _, .cons r t, s => .cons r (Vals.append t s)
theorem Vals.take : ∀ {xs : List V} {us : List Value} (n : Nat), Vals xs us → Vals (xs.take n) (us.take n)
 | _, _, 0, _ => .nil
 | _, _, _ + 1, .nil => .nil
 | _, _, n + 1, .cons r t => .cons r (Vals.take n t)
theorem Vals.drop : ∀ {xs : List V} {us : List Value} (n : Nat), Vals xs us → Vals (xs.drop n) (us.drop n)
 | _, _, 0, r => r
 | _, _, _ + 1, .nil => .nil
 | _, _, n + 1, .cons _ t => Vals.drop n t
def qK : Option V → Option Value → Prop
 | some v, some u => RelV v u
 | none, none => True
 | _, _ => False
def KV {κ : Type} : List (κ × V) → List (κ × Value) → Prop := Paired fun (p : κ × V) (q : κ × Value) => p.1 = q.1 ∧ RelV p.2 q.2
def kV : Key → V
 | .inl i => .int i
 | .inr x => .str x
inductive HO where
  | lst (xs : List V)
  | tup (xs : List V)
  | dK (kvs : List (Key × V)) | dT (kvs : List (List Key × V))
  | set (S : Int → Bool) (n : Nat)
  | ins (C dx : Addr) (fs : List (Str × V))
  | own (x : Addr)
  | xd (fs : List (Str × V))
  | met (f x : Addr)
  | rng (lo hi : Int)
  | frz (o : Obj) (u : HO)
  | tbl (ps : Array Value)
  | ext (φ : Heap → Prop)
abbrev Hp := Addr → Option HO
def upd (H : Hp) (a : Addr) (o : HO) : Hp := fun b => if b = a then some o else H b
theorem ak {H : Hp} {a : Addr} {o : HO} : upd H a o a = some o := by unfold upd; rw [if_pos rfl]
theorem aC {H : Hp} {a b : Addr} {o : HO} (h : b ≠ a) : upd H a o b = H b := by unfold upd; rw [if_neg h]
theorem jO {H : Hp} {a : Addr} {o u : HO} : upd (upd H a o) a u = upd H a u := by
 funext b; unfold upd; split <;> rfl
theorem aB {H : Hp} {a b : Addr} {o : HO} (h : H a = some o) (h' : H b = none) : a ≠ b := by
 intro e; subst e; rw [h] at h'; cases h'
section
variable (P : Program) (w : World)
def cj (H : Hp) (h : Heap) (a : Addr) : HO → Prop
 | .lst xs => xs.length ≤ sizeLine ∧ ∃ (its : List Value) (n : Nat), Vals xs its ∧ h.get? a = some { cls := .type "list", data := .seq its.toArray n }
 | .tup xs => xs.length ≤ sizeLine ∧ ∃ its : List Value, Vals xs its ∧ IsTup h a its.toArray
 | .dK kvs => kvs.length ≤ sizeLine ∧ (a == sysModules) = false ∧ ∃ vs, KV kvs vs ∧ h.DictOf (xM P w) a vs
 | .dT kvs => kvs.length ≤ sizeLine ∧ (a == sysModules) = false ∧ ∃ xs : List (List Key × Addr × Value),
   Paired (fun (p : List Key × V) (q : List Key × Addr × Value) => p.1 = q.1 ∧ H q.2.1 = some (.tup (p.1.map kV)) ∧ RelV p.2 q.2.2) kvs xs ∧
   ∃ o es ep, h.get? a = some o ∧ o.ExactDict ∧ o.data = .dict es ep ∧ es.toList = xs.map (entryOfKey (tupleKind (xM P w))) ∧ (xs.map (·.1)).Nodup
 | .set S n => h.SetOf (intKind P w) a S n
 | .ins C dx fs => H dx = some (.own a) ∧ fs.length ≤ 1000 ∧ dx ≠ a ∧ h.get? a = some (PySem.W.instObj C dx) ∧
   ∃ mA, h.Ns1 dx mA ∧ (∀ f, qK (fs.lookup f) (mA f)) ∧ PySem.Within mA (fs.map (·.1))
 | .own _ => ∃ o, h.get? a = some o
 | .xd fs => ∃ mA, h.Ns1 a mA ∧ ∀ f, qK (fs.lookup f) (mA f)
 | .rng lo hi => ∃ t u v, h.get? a = some { cls := .type "range", data := .fields #[.int lo t, .int hi u, .int 1 v] }
 | .frz o u => h.get? a = some o ∧ cj H h a u
 | .tbl ps => h.get? a = some { cls := .none, data := .fields ps }
 | .met f x => h.get? a = some (PySem.W.methodObj (.ref f) (.ref x))
 | .ext φ => φ h ∧ (∃ o, h.get? a = some o) ∧ ∀ h1 h2 : Heap, φ h1 → (∀ o, h1.get? a = some o → h2.get? a = some o) → φ h2
def HOk (H : Hp) (h : Heap) : Prop := ∀ a o, H a = some o → cj P w H h a o
end
section
variable {P : Program} {w : World} {H H' : Hp} {h h' : Heap} {a : Addr} {o : HO}
theorem cj.lt (x : cj P w H h a o) : a < h.objs.size := by
 cases o with
 | lst xs => obtain ⟨_, _, _, _, e⟩ := x; exact Heap.lt_size e
 | tup xs => obtain ⟨_, _, _, p⟩ := x; exact p.lt
 | dK kvs => obtain ⟨_, _, _, _, o, _, _, e, _⟩ := x; exact Heap.lt_size e
 | dT kvs => obtain ⟨_, _, _, _, o, _, _, e, _⟩ := x; exact Heap.lt_size e
 | set S n => obtain ⟨o, _, _, _, e, _⟩ := x; exact Heap.lt_size e
 | ins C dx fs => obtain ⟨_, _, _, e, _⟩ := x; exact Heap.lt_size e
 | own y => obtain ⟨_, e⟩ := x; exact Heap.lt_size e
 | xd fs => obtain ⟨_, ⟨_, _, _, e, _⟩, _⟩ := x; exact Heap.lt_size e
 | rng lo hi => obtain ⟨_, _, _, e⟩ := x; exact Heap.lt_size e
 | frz ob u => obtain ⟨e, _⟩ := x; exact Heap.lt_size e
 | tbl ps => exact Heap.lt_size (show h.get? a = some _ from x)
 | met f y => exact Heap.lt_size (show h.get? a = some _ from x)
 | ext φ => obtain ⟨_, ⟨_, e⟩, _⟩ := x; exact Heap.lt_size e
theorem Paired.mapP {α β : Type} {F G : α → β → Prop} : ∀ {l₁ : List α} {l₂ : List β}, Paired F l₁ l₂ → (∀ a b, F a b → G a b) → Paired G l₁ l₂
 | _, _, .nil, _ => .nil
 | _, _, .cons r t, f => .cons (f _ _ r) (Paired.mapP t f)
theorem cj.stay (x : cj P w H h a o) (k : ∀ b u, (b = a ∨ H b = some (.own a)) → h.get? b = some u → h'.get? b = some u)
  (ho : ∀ b, H b = some (.own a) → H' b = some (.own a)) (ht : ∀ b xs, H b = some (.tup xs) → H' b = some (.tup xs)) : cj P w H' h' a o := by
 induction o with
 | lst xs => obtain ⟨z, its, n, r, e⟩ := x; exact ⟨z, its, n, r, k _ _ (.inl rfl) e⟩
 | tup xs => obtain ⟨z, its, r, ob, e, c⟩ := x; exact ⟨z, its, r, ob, k _ _ (.inl rfl) e, c⟩
 | dK kvs => obtain ⟨z, y, vs, r, ob, es, ep, e, c⟩ := x; exact ⟨z, y, vs, r, ob, es, ep, k _ _ (.inl rfl) e, c⟩
 | dT kvs =>
  obtain ⟨z, y, xs, r, ob, es, ep, e, c⟩ := x
  exact ⟨z, y, xs, Paired.mapP r fun p q z => ⟨z.1, ht _ _ z.2.1, z.2.2⟩, ob, es, ep, k _ _ (.inl rfl) e, c⟩
 | set S n => obtain ⟨ob, es, ep, t, e, c⟩ := x; exact ⟨ob, es, ep, t, k _ _ (.inl rfl) e, c⟩
 | ins C dx fs =>
  obtain ⟨d, z, ne, e, mA, ⟨od, es, ep, e2, c⟩, r⟩ := x
  exact ⟨ho _ d, z, ne, k _ _ (.inl rfl) e, mA, ⟨od, es, ep, k _ _ (.inr d) e2, c⟩, r⟩
 | own y => obtain ⟨ob, e⟩ := x; exact ⟨ob, k _ _ (.inl rfl) e⟩
 | xd fs => obtain ⟨mA, ⟨od, es, ep, e, c⟩, r⟩ := x; exact ⟨mA, ⟨od, es, ep, k _ _ (.inl rfl) e, c⟩, r⟩
 | rng lo hi => obtain ⟨t, u, v, e⟩ := x; exact ⟨t, u, v, k _ _ (.inl rfl) e⟩
 | frz ob u ih => obtain ⟨e, q⟩ := x; exact ⟨k _ _ (.inl rfl) e, ih q⟩
 | tbl ps =>
  have e : h.get? a = some { cls := .none, data := .fields ps } := x
  show h'.get? a = some { cls := .none, data := .fields ps }
  exact k a _ (.inl rfl) e
 | met f y =>
  have e : h.get? a = some (PySem.W.methodObj (.ref f) (.ref y)) := x
  show h'.get? a = some (PySem.W.methodObj (.ref f) (.ref y))
  exact k a _ (.inl rfl) e
 | ext φ => obtain ⟨p, ⟨o, e⟩, st⟩ := x; exact ⟨st _ _ p fun o q => k _ _ (.inl rfl) q, ⟨o, k _ _ (.inl rfl) e⟩, st⟩
theorem HOk.lt (x : HOk P w H h) (e : H a = some o) : a < h.objs.size := (x a o e).lt
theorem HOk.fresh (x : HOk P w H h) (e : h.objs.size ≤ a) : H a = none := by
 cases q : H a with
 | none => rfl
 | some u => exact absurd (Nat.lt_of_lt_of_le (x.lt q) e) (Nat.lt_irrefl _)
theorem HOk.kept (x : HOk P w H h) (k : ∀ b u, h.get? b = some u → h'.get? b = some u) : HOk P w H h' := fun a o e =>
 (x a o e).stay (fun b u _ q => k b u q) (fun _ q => q) fun _ _ q => q
theorem HOk.laid (x : HOk P w H h) (k : ∀ b u, h.get? b = some u → h'.get? b = some u) (hp : h.objs.size ≤ a) (new : cj P w (upd H a o) h' a o) : HOk P w (upd H a o) h' := fun b u e => by
 have hn := x.fresh hp
 by_cases hb : b = a
 ·subst hb; rw [ak] at e; cases e; exact new
 ·rw [aC hb] at e
  exact (x b u e).stay (fun c v _ q => k c v q) (fun c q => by rw [aC (aB q hn)]; exact q) fun c xs q => by rw [aC (aB q hn)]; exact q
end
def Rd (H : Hp) (a : Addr) (u : HO) : Prop := H a = some u ∨ ∃ o, H a = some (.frz o u)
theorem Rd.ok {P : Program} {w : World} {H : Hp} {h : Heap} {a : Addr} {u : HO} (r : Rd H a u) (x : HOk P w H h) : cj P w H h a u := by
 rcases r with r | ⟨o, r⟩
 ·exact x a u r
 ·obtain ⟨_, q⟩ := x a _ r
  exact q
def Mut : Option HO → Prop
 | some (.lst _) => True
 | some (.dK _) => True
 | some (.dT _) => True
 | some (.set _ _) => True
 | some (.ins _ _ _) => True
 | some (.ext _) => True
 | _ => False
section
variable {P : Program} {w : World} {H : Hp} {h h' : Heap} {x e : Addr} {o' : HO}
theorem HOk.write (ok : HOk P w H h) (mu : Mut (H x)) (he : e = x ∨ H e = some (.own x)) (k : ∀ b u, b ≠ e → h.get? b = some u → h'.get? b = some u) (heo : ∃ u, h'.get? e = some u)
  (new : cj P w (upd H x o') h' x o') : HOk P w (upd H x o') h' := fun b u q => by
 have nown : ∀ c y, H c = some (.own y) → c ≠ x := fun c y r z => by subst z; rw [r] at mu; exact mu
 have ntup : ∀ c xs, H c = some (.tup xs) → c ≠ x := fun c xs r z => by subst z; rw [r] at mu; exact mu
 by_cases hb : b = x
 ·subst hb; rw [ak] at q; cases q; exact new
 ·rw [aC hb] at q
  by_cases hbe : b = e
  ·have q' : H b = some (.own x) := by
    rcases he with z | z
    ·exact absurd (hbe.trans z) hb
    ·rw [hbe]; exact z
   rw [q] at q'; cases q'
   obtain ⟨v, hv⟩ := heo
   exact ⟨v, by rw [hbe]; exact hv⟩
  ·refine (ok b u q).stay (fun c v hc r => k c v ?_ r) (fun c r => by rw [aC (nown c b r)]; exact r) fun c xs r => by rw [aC (ntup c xs r)]; exact r
   rcases hc with rfl | hc
   ·exact hbe
   ·rintro rfl
    rcases he with z | z
    ·exact nown c b hc z
    ·rw [hc] at z; cases z; exact hb rfl
end
structure Un (fs ex : List Addr) (H H' : Hp) (h h' : Heap) : Prop where
 keep : ∀ b o, h.get? b = some o → H b = none → b ∉ fs → b ∉ ex → h'.get? b = some o
 slot : ∀ b o, h.get? b = some o → H b = none → b ∈ fs → b ∉ ex → ∃ sl, h'.get? b = some { o with slots := sl }
 free : ∀ b o, h.get? b = some o → H b = none → b ∉ ex → H' b = none
 there : ∀ b o, h.get? b = some o → b ∉ ex → ∃ o', h'.get? b = some o'
 tups : ∀ b xs, H b = some (.tup xs) → H' b = some (.tup xs)
 frzs : ∀ b o u, H b = some (.frz o u) → H' b = some (.frz o u)
 tbls : ∀ b ps, H b = some (.tbl ps) → ∃ more, H' b = some (.tbl (ps ++ more))
section
variable {fs fs' ex ex' : List Addr} {H H1 H2 : Hp} {h h1 h2 h' : Heap} {a x e : Addr} {o : HO}
theorem Un.any (u : Un fs ex H H1 h h1) {b : Addr} {ob : Obj} (q : h.get? b = some ob) (n : H b = none) (hx : b ∉ ex) : ∃ sl, h1.get? b = some { ob with slots := sl } := by
 by_cases hb : b ∈ fs
 ·exact u.slot b ob q n hb hx
 ·exact ⟨ob.slots, u.keep b ob q n hb hx⟩
theorem Un.trans (a : Un fs ex H H1 h h1) (b : Un fs ex H1 H2 h1 h2) : Un fs ex H H2 h h2 where
 keep := fun c ob q n hc hx => b.keep c ob (a.keep c ob q n hc hx) (a.free c ob q n hx) hc hx
 slot := fun c ob q n hc hx => by
  obtain ⟨sl, e1⟩ := a.slot c ob q n hc hx
  obtain ⟨sl', e2⟩ := b.slot c _ e1 (a.free c ob q n hx) hc hx
  exact ⟨sl', e2⟩
 free := fun c ob q n hx => by
  obtain ⟨o', e1⟩ := a.there c ob q hx
  exact b.free c o' e1 (a.free c ob q n hx) hx
 there := fun c ob q hx => by
  obtain ⟨o', e1⟩ := a.there c ob q hx
  exact b.there c o' e1 hx
 tups := fun c xs q => b.tups c xs (a.tups c xs q)
 frzs := fun c ob xs q => b.frzs c ob xs (a.frzs c ob xs q)
 tbls := fun c ps q => by
  obtain ⟨m1, e1⟩ := a.tbls c ps q
  obtain ⟨m2, e2⟩ := b.tbls c _ e1
  exact ⟨m1 ++ m2, by rw [e2, Array.append_assoc]⟩
theorem Un.kept (k : ∀ b u, h.get? b = some u → h'.get? b = some u) : Un fs ex H H h h' :=
 ⟨fun b ob q _ _ _ => k b ob q, fun b ob q _ _ _ => ⟨ob.slots, k b ob q⟩, fun _ _ _ n _ => n, fun b ob q _ => ⟨ob, k b ob q⟩, fun _ _ q => q, fun _ _ _ q => q, fun _ ps q => ⟨#[], by rw [q]; simp⟩⟩
theorem Un.refl : Un fs ex H H h h := Un.kept fun _ _ q => q
theorem Un.laid (k : ∀ b u, h.get? b = some u → h'.get? b = some u) (hp : h.objs.size ≤ a) (hn : H a = none) : Un fs ex H (upd H a o) h h' where
 keep := fun b u q _ _ _ => k b u q
 slot := fun b u q _ _ _ => ⟨u.slots, k b u q⟩
 free := fun b u q n _ => by rw [aC (Nat.ne_of_lt (Nat.lt_of_lt_of_le (Heap.lt_size q) hp))]; exact n
 there := fun b u q _ => ⟨u, k b u q⟩
 tups := fun b xs q => by rw [aC (aB q hn)]; exact q
 frzs := fun b u xs q => by rw [aC (aB q hn)]; exact q
 tbls := fun b ps q => ⟨#[], by rw [aC (aB q hn), q]; simp⟩
theorem Un.write (mu : Mut (H x)) (he : e = x ∨ H e = some (.own x)) (k : ∀ b u, b ≠ e → h.get? b = some u → h'.get? b = some u) (heo : ∃ u, h'.get? e = some u) : Un fs ex H (upd H x o) h h' := by
 have hx : ∀ b, H b = none → b ≠ x := fun b n z => by subst z; rw [n] at mu; exact mu
 have hb : ∀ b, H b = none → b ≠ e := fun b n z => by
  subst z
  rcases he with r | r
  ·exact hx b n r
  ·rw [n] at r; cases r
 have hm : ∀ b u, H b = some u → ¬ Mut (some u) → b ≠ x := fun b u q nm z => by subst z; rw [q] at mu; exact nm mu
 refine ⟨fun b u q n _ _ => k b u (hb b n) q, fun b u q n _ _ => ⟨u.slots, k b u (hb b n) q⟩, fun b u q n _ => by rw [aC (hx b n)]; exact n, fun b u q _ => ?_,
  fun b xs q => by rw [aC (hm b _ q fun z => z)]; exact q, fun b u xs q => by rw [aC (hm b _ q fun z => z)]; exact q, fun b ps q => ⟨#[], by rw [aC (hm b _ q fun z => z), q]; simp⟩⟩
 by_cases hbe : b = e
 ·subst hbe; exact heo
 ·exact ⟨u, k b u hbe q⟩
end
def trk (h : Heap) (H : Hp) : List Addr := (List.range h.objs.size).filter fun a => (H a).isSome
def p7 (h : Heap) (H : Hp) : Heap := PySem.W.hideAll h (trk h H)
theorem yF (h : Heap) (H : Hp) : (p7 h H).objs.size = h.objs.size := PySem.W.hideAll_size _ _
theorem zL {h : Heap} {H : Hp} {b : Addr} {o : Obj} (e : h.get? b = some o) (n : H b = none) : (p7 h H).get? b = some o :=
 PySem.W.hideAll_get _ e fun hm => by
  have q : (H b).isSome = true := (List.mem_filter.mp hm).2
  rw [n] at q; simp at q
theorem Ck {h : Heap} {H : Hp} {b : Addr} {o : Obj} (e : (p7 h H).get? b = some o) : h.get? b = some o ∧ H b = none := by
 have e' : h.get? b = some o := PySem.W.of_hideAll (trk h H) e
 refine ⟨e', ?_⟩
 cases q : H b with
 | none => rfl
 | some x =>
  have hm : b ∈ trk h H := List.mem_filter.mpr ⟨List.mem_range.mpr (Heap.lt_size e'), by simp [q]⟩
  have z : (p7 h H).get? b = none := PySem.W.hideAll_none (trk h H) hm
  rw [z] at e; cases e
def Bv (g h : Heap) (L : Addr) : List (Addr × Obj) := (List.range h.objs.size).filterMap fun a => if a = L ∨ (g.get? a).isSome = true then none else (h.get? a).map fun o => (a, o)
def rest (g h : Heap) (L d : Addr) : List (Addr × Obj) := (Bv g h L).filter fun p => decide (p.1 ≠ d)
end L2
namespace L2
open PySem PySem.Spec PyProof.Rows
structure Mod (K : PySem.W.Frag) (mg : Str → Option Value) (base : Heap) : Prop where
 kin : K.In base
 glob : base.Ns mainGlobals mg
 blt : ∃ mb, base.Ns builtinsNs mb ∧ ∀ x : Str, x ≠ "__name__" → mb x = bootBuiltins x
 nolimit : base.NoLimit
structure Cx where
 prog : Program
 w : World
 K : PySem.W.Frag
 mg : Str → Option Value
 base : Heap
 A : Around
 N : List Str
 s₀ : Shared
 H₀ : Hp
 env : Env
 outer : List Env
 stack : List Env
 ex : List Addr
 fn : Str → Bool
 calm : Bool
 pn : List (Addr × Obj)
 xe : Value → Shared → Prop
def frs (l : List Env) : List Addr := l.filterMap (·.frame)
abbrev Cx.fs (X : Cx) : List Addr := frs X.outer
def Vis (sc : Scope) (x : Str) : Prop := sc.names.lookup x = some .local ∨ sc.names.lookup x = some .cell ∨ sc.names.lookup x = some .free
def Loc (sc : Scope) (x : Str) : Prop := sc.names.lookup x = some .local ∨ sc.names.lookup x = some .cell
def Look (env : Env) (h : Heap) (m : Str → Option Value) (x : Str) (u : Value) : Prop :=
 (env.kindOf x = some .local ∧ m x = some u) ∨ ((env.kindOf x = some .cell ∨ env.kindOf x = some .free) ∧ ∃ c, env.cells.lookup x = some c ∧ h.IsCell c (some u))
structure Cx.Ok (X : Cx) : Prop where
 mod : Mod X.K X.mg X.base
 kind : X.env.scope.kind = .function
 glob : X.env.globals = mainGlobals
 blt : X.env.builtins = builtinsNs
 above : X.s₀.heap.objs.size ≤ X.env.locals
 inj : ∀ x y c, X.env.cells.lookup x = some c → X.env.cells.lookup y = some c → x = y
 has : ∀ x, (X.env.kindOf x = some .cell ∨ X.env.kindOf x = some .free) → ∃ c, X.env.cells.lookup x = some c
 cab : ∀ x c, X.fn x = true → X.env.cells.lookup x = some c → X.s₀.heap.objs.size ≤ c
 hd : X.calm = true → X.A.handled = none
 frames : X.A.frames = some X.stack
 stk : X.stack = X.outer ∨ (X.stack = X.env :: X.outer ∧ X.env.frame = some X.env.locals)
 exf : ∀ b ∈ X.ex, b ≠ X.env.locals ∧ ∀ x c, X.env.cells.lookup x = some c → c ≠ b
 bs : ∀ b o, X.base.get? b = some o → X.s₀.heap.get? b = some o ∧ X.H₀ b = none
 bsz : X.base.objs.size ≤ X.s₀.heap.objs.size
 noex : ∀ b o, X.base.get? b = some o → b ∉ X.ex
 exfs : ∀ b ∈ X.ex, b ∉ X.fs
 funs : X.s₀.heap.FunFrames X.base X.outer
 frf : ∀ b ∈ X.fs, X.H₀ b = none
structure Inv (X : Cx) (pins : List (Addr × Obj)) (σ : List (Option V)) (H : Hp) (s : Shared) : Prop where
 ok : X.Ok
 os : s.os = X.s₀.os
 bare : AllBare s.gens
 base : Un X.fs X.ex X.H₀ H X.s₀.heap s.heap
 loc : ∃ m, s.heap.Ns X.env.locals m ∧ ∀ (i : Nat) (x : Str) (v : V), X.N[i]? = some x → σ[i]? = some (some v) → Vis X.env.scope x → ∃ u, RelV v u ∧ Look X.env s.heap m x u
 cell : ∀ x c, X.env.cells.lookup x = some c → ∃ v, s.heap.IsCell c v
 free : H X.env.locals = none
 freeC : ∀ x c, X.env.cells.lookup x = some c → H c = none
 pin : ∀ p ∈ X.pn ++ pins, s.heap.get? p.1 = some p.2 ∧ H p.1 = none ∧ p.1 ≠ X.env.locals ∧ p.1 ∉ X.fs ∧ ∀ v, p.2.data ≠ .cell v
 hok : HOk X.prog X.w H s.heap
 len : σ.length = X.N.length
section
variable {X : Cx} {pins : List (Addr × Obj)} {σ : List (Option V)} {H H' : Hp} {s : Shared} {h' : Heap}
theorem Cx.Ok.nofr (ok : X.Ok) {b : Addr} {o : Obj} (e : X.base.get? b = some o) : b ∉ X.fs := fun hb => by
 have := (ok.funs.mem hb).1
 rw [e] at this; cases this
theorem Inv.bs (I : Inv X pins σ H s) : ∀ b o, X.base.get? b = some o → s.heap.get? b = some o ∧ H b = none := fun b o e =>
 ⟨I.base.keep b o (I.ok.bs b o e).1 (I.ok.bs b o e).2 (I.ok.nofr e) (I.ok.noex b o e), I.base.free b o (I.ok.bs b o e).1 (I.ok.bs b o e).2 (I.ok.noex b o e)⟩
theorem Inv.bk (I : Inv X pins σ H s) : ∀ b o, X.base.get? b = some o → s.heap.get? b = some o := fun b o e => (I.bs b o e).1
theorem Inv.mod (I : Inv X pins σ H s) : Mod X.K X.mg X.base := I.ok.mod
theorem Inv.kIn (I : Inv X pins σ H s) : X.K.In s.heap := I.ok.mod.kin.keeps I.bk
theorem Inv.lt (I : Inv X pins σ H s) : X.env.locals < s.heap.objs.size := let ⟨_, hn, _⟩ := I.loc; hn.lt
theorem Inv.sz (I : Inv X pins σ H s) : X.s₀.heap.objs.size ≤ s.heap.objs.size := Nat.le_trans I.ok.above (Nat.le_of_lt I.lt)
theorem Inv.nofs (I : Inv X pins σ H s) {a : Addr} (h : s.heap.objs.size ≤ a) : a ∉ X.fs := fun hb => by
 obtain ⟨_, o, ho, _⟩ := I.ok.funs.mem hb
 exact absurd (Nat.lt_of_lt_of_le (Heap.lt_size ho) (Nat.le_trans I.sz h)) (Nat.lt_irrefl _)
theorem Inv.cne (I : Inv X pins σ H s) : ∀ x c, X.env.cells.lookup x = some c → c ≠ X.env.locals := fun x c e z => by
 obtain ⟨v, o, ho, hd⟩ := I.cell x c e
 obtain ⟨m, ⟨o', es, ep, ho', hd', _⟩, _⟩ := I.loc
 rw [z, ho'] at ho; cases ho; rw [hd'] at hd; cases hd
theorem Inv.funs (I : Inv X pins σ H s) : s.heap.FunFrames X.base X.outer := by
 have all : ∀ (l : List Env), (∀ b ∈ frs l, b ∈ X.fs) → X.s₀.heap.FunFrames X.base l → s.heap.FunFrames X.base l := by
  intro l
  induction l with
  | nil => intro _ _; trivial
  | cons env r ih =>
   intro hs hl
   obtain ⟨hk, ⟨L, o, hf, hn, ho, hd⟩, hr⟩ := hl
   have hL : L ∈ X.fs := hs L (by unfold frs; rw [List.filterMap_cons, hf]; exact List.mem_cons_self)
   obtain ⟨sl, e⟩ := I.base.slot L o ho (I.ok.frf L hL) hL fun z => I.ok.exfs L z hL
   exact ⟨hk, ⟨L, _, hf, hn, e, hd⟩, ih (fun b hb => hs b (by unfold frs; rw [List.filterMap_cons, hf]; exact List.mem_cons_of_mem _ hb)) hr⟩
 exact all X.outer (fun _ hb => hb) I.ok.funs
theorem Inv.stack (I : Inv X pins σ H s) : s.heap.FunFrames X.base X.stack := by
 rcases I.ok.stk with e | ⟨e, hf⟩
 ·rw [e]; exact I.funs
 ·rw [e]
  obtain ⟨m, hn, _⟩ := I.loc
  refine .cons (by rw [I.ok.kind]; decide) hf hn ?_ I.funs
  exact Heap.get?_none_of_le (Nat.le_trans I.ok.bsz I.ok.above)
theorem Inv.stkSub (I : Inv X pins σ H s) : ∀ b ∈ frs X.stack, b ∈ X.env.locals :: X.fs := fun b hb => by
 rcases I.ok.stk with e | ⟨e, hf⟩
 ·rw [e] at hb; exact List.mem_cons_of_mem _ hb
 ·rw [e] at hb
  unfold frs at hb
  rw [List.filterMap_cons, hf] at hb
  exact hb
theorem Inv.stkFree (I : Inv X pins σ H s) : ∀ b ∈ frs X.stack, H b = none := fun b hb => by
 rcases List.mem_cons.mp (I.stkSub b hb) with e | hb
 ·rw [e]; exact I.free
 ·obtain ⟨_, o, ho, _⟩ := I.ok.funs.mem hb
  exact I.base.free b o ho (I.ok.frf b hb) fun z => I.ok.exfs b z hb
theorem Inv.step {g' : Array GenState} {t' : Nat} {d' : Drawn} {ch : List Addr} (I : Inv X pins σ H s)
  (hch : ∀ b ∈ ch, (b ∈ X.ex ∨ X.s₀.heap.objs.size ≤ b) ∧ b ≠ X.env.locals ∧ (∀ x c, X.env.cells.lookup x = some c → c ≠ b) ∧ ∀ p ∈ X.pn ++ pins, p.1 ≠ b)
  (keep : ∀ b o, b ≠ X.env.locals → b ∉ X.fs → b ∉ ch → s.heap.get? b = some o → H b = none → h'.get? b = some o)
  (slot : ∀ b o, b ≠ X.env.locals → b ∈ X.fs → b ∉ ch → s.heap.get? b = some o → H b = none → ∃ sl, h'.get? b = some { o with slots := sl }) (free : ∀ b o, b ∉ ch → s.heap.get? b = some o → H b = none → H' b = none)
  (there : ∀ b o, b ∉ ch → s.heap.get? b = some o → ∃ o', h'.get? b = some o')
  (tups : ∀ b xs, H b = some (.tup xs) → H' b = some (.tup xs)) (frzs : ∀ b o u, H b = some (.frz o u) → H' b = some (.frz o u)) (tbls : ∀ b ps, H b = some (.tbl ps) → ∃ more, H' b = some (.tbl (ps ++ more)))
  (ns : ∀ m, s.heap.Ns X.env.locals m → h'.Ns X.env.locals m) (hok : HOk X.prog X.w H' h') (hg : AllBare g') :
  Inv X pins σ H' { s with heap := h', gens := g', drawn := d', toks := t' } := by
 have neL : ∀ b o, X.s₀.heap.get? b = some o → b ≠ X.env.locals := fun b o e => Nat.ne_of_lt (Nat.lt_of_lt_of_le (Heap.lt_size e) I.ok.above)
 have neC : ∀ b o, X.s₀.heap.get? b = some o → b ∉ X.ex → b ∉ ch := fun b o e hx hb => by
  rcases (hch b hb).1 with z | z
  ·exact hx z
  ·exact absurd (Nat.lt_of_lt_of_le (Heap.lt_size e) z) (Nat.lt_irrefl _)
 have cellK : ∀ x c, X.env.cells.lookup x = some c → ∀ v, s.heap.IsCell c v → h'.IsCell c v := fun x c e v ⟨o, ho, hd⟩ => by
  have nch : c ∉ ch := fun z => (hch c z).2.2.1 x c e rfl
  by_cases hc : c ∈ X.fs
  ·obtain ⟨sl, q⟩ := slot c o (I.cne x c e) hc nch ho (I.freeC x c e)
   exact ⟨_, q, hd⟩
  ·exact ⟨o, keep c o (I.cne x c e) hc nch ho (I.freeC x c e), hd⟩
 refine ⟨I.ok, I.os, hg, ⟨fun b o e n hb hx => ?_, fun b o e n hb hx => ?_, fun b o e n hx => ?_, fun b o e hx => ?_, fun b xs e => tups b xs (I.base.tups b xs e), fun b o xs e => frzs b o xs (I.base.frzs b o xs e), fun b ps e => ?_⟩, ?_, fun x c e => ?_, ?_, fun x c e => ?_, fun p hp => ?_, hok, I.len⟩
 ·exact keep b o (neL b o e) hb (neC b o e hx) (I.base.keep b o e n hb hx) (I.base.free b o e n hx)
 ·obtain ⟨sl, e1⟩ := I.base.slot b o e n hb hx
  obtain ⟨sl', e2⟩ := slot b _ (neL b o e) hb (neC b o e hx) e1 (I.base.free b o e n hx)
  exact ⟨sl', e2⟩
 ·obtain ⟨o', e1⟩ := I.base.there b o e hx
  exact free b o' (neC b o e hx) e1 (I.base.free b o e n hx)
 ·obtain ⟨o', e1⟩ := I.base.there b o e hx
  exact there b o' (neC b o e hx) e1
 ·obtain ⟨m1, e1⟩ := I.base.tbls b ps e
  obtain ⟨m2, e2⟩ := tbls b _ e1
  exact ⟨m1 ++ m2, by rw [e2, Array.append_assoc]⟩
 ·obtain ⟨m, hn, hl⟩ := I.loc
  refine ⟨m, ns m hn, fun i x v e1 e2 e3 => ?_⟩
  obtain ⟨u, r, l⟩ := hl i x v e1 e2 e3
  refine ⟨u, r, ?_⟩
  rcases l with l | ⟨k, c, e, z⟩
  ·exact .inl l
  ·exact .inr ⟨k, c, e, cellK x c e _ z⟩
 ·obtain ⟨v, z⟩ := I.cell x c e
  exact ⟨v, cellK x c e v z⟩
 ·obtain ⟨m, ⟨o, _, _, ho, _⟩, _⟩ := I.loc
  exact free _ o (fun z => (hch _ z).2.1 rfl) ho I.free
 ·obtain ⟨v, o, ho, hd⟩ := I.cell x c e
  exact free c o (fun z => (hch c z).2.2.1 x c e rfl) ho (I.freeC x c e)
 ·obtain ⟨e, n, ne, nf, d⟩ := I.pin p hp
  have nch : p.1 ∉ ch := fun z => (hch p.1 z).2.2.2 p hp rfl
  exact ⟨keep p.1 p.2 ne nf nch e n, free p.1 p.2 nch e n, ne, nf, d⟩
theorem Inv.un {t' : Nat} (I : Inv X pins σ H s) (u : Un X.fs [] H H' s.heap h') (hok : HOk X.prog X.w H' h') : Inv X pins σ H' { s with heap := h', toks := t' } := by
 obtain ⟨m, ⟨o, es, ep, ho, r⟩, _⟩ := id I.loc
 obtain ⟨sl, hL⟩ := u.any ho I.free (by simp)
 exact I.step (g' := s.gens) (d' := s.drawn) (ch := []) (fun _ z => nomatch z) (fun b o _ hb _ e n => u.keep b o e n hb (by simp)) (fun b o _ hb _ e n => u.slot b o e n hb (by simp)) (fun b o _ e n => u.free b o e n (by simp)) (fun b o _ e => u.there b o e (by simp)) u.tups u.frzs u.tbls (fun m' hm => by
  obtain ⟨o', es', ep', ho', r'⟩ := hm
  rw [ho] at ho'; cases ho'
  exact ⟨_, es', ep', hL, r'⟩) hok I.bare
theorem Inv.call {g' : Array GenState} {t' : Nat} {d' : Drawn} {ch : List Addr} (I : Inv X pins σ H s) (u : Un (frs X.stack) ch H H' s.heap h') (hok : HOk X.prog X.w H' h') (hg : AllBare g')
  (hch : ∀ b ∈ ch, (b ∈ X.ex ∨ X.s₀.heap.objs.size ≤ b) ∧ b ≠ X.env.locals ∧ (∀ x c, X.env.cells.lookup x = some c → c ≠ b) ∧ ∀ p ∈ X.pn ++ pins, p.1 ≠ b) :
  Inv X pins σ H' { s with heap := h', gens := g', drawn := d', toks := t' } := by
 obtain ⟨m, ⟨o, es, ep, ho, r⟩, _⟩ := id I.loc
 obtain ⟨sl, hL⟩ := u.any ho I.free fun z => (hch _ z).2.1 rfl
 exact I.step (ch := ch) hch (fun b o hL hb hc e n => u.keep b o e n (fun z => (List.mem_cons.mp (I.stkSub b z)).elim hL hb) hc) (fun b o _ _ hc e n => u.any e n hc) (fun b o hc e n => u.free b o e n hc) (fun b o hc e => u.there b o e hc) u.tups u.frzs u.tbls (fun m' hm => by
  obtain ⟨o', es', ep', ho', r'⟩ := hm
  rw [ho] at ho'; cases ho'
  exact ⟨_, es', ep', hL, r'⟩) hok hg
theorem Inv.turned {t' : Nat} {it : Addr} (I : Inv X pins σ H s) (k : ∀ b o, b ≠ it → s.heap.get? b = some o → h'.get? b = some o) (hn : H it = none) (hL : it ≠ X.env.locals)
  (h1 : it ∈ X.ex ∨ X.s₀.heap.objs.size ≤ it) (h2 : ∀ x c, X.env.cells.lookup x = some c → c ≠ it) (h3 : ∀ p ∈ X.pn ++ pins, p.1 ≠ it) : Inv X pins σ H { s with heap := h', toks := t' } := by
 have nit : ∀ b u, H b = some u → b ≠ it := fun b u e z => by rw [z, hn] at e; cases e
 refine I.step (g' := s.gens) (d' := s.drawn) (ch := [it]) (fun b hb => ?_) (fun b o _ _ hc e _ => k b o (fun z => hc (by simp [z])) e) (fun b o _ _ hc e _ => ⟨o.slots, k b o (fun z => hc (by simp [z])) e⟩) (fun _ _ _ _ n => n)
  (fun b o hc e => ⟨o, k b o (fun z => hc (by simp [z])) e⟩) (fun _ _ e => e) (fun _ _ _ e => e) (fun b ps e => ⟨#[], by rw [e]; simp⟩) (fun m hm => ?_) (fun b u e => ?_) I.bare
 ·have e : b = it := by simpa using hb
  subst e
  exact ⟨h1, hL, h2, h3⟩
 ·obtain ⟨o, es, ep, ho, r⟩ := hm
  exact ⟨o, es, ep, k _ o (Ne.symm hL) ho, r⟩
 ·refine (I.hok b u e).stay (fun c v hc q => k c v ?_ q) (fun _ q => q) fun _ _ q => q
  rcases hc with z | z
  ·rw [z]; exact nit b u e
  ·exact nit c _ z
theorem Inv.tok (I : Inv X pins σ H s) (t : Nat) : Inv X pins σ H { s with toks := t } := I.un (h' := s.heap) (t' := t) Un.refl I.hok
theorem Inv.kept {t' : Nat} (I : Inv X pins σ H s) (k : ∀ b u, s.heap.get? b = some u → h'.get? b = some u) : Inv X pins σ H { s with heap := h', toks := t' } := I.un (Un.kept k) (I.hok.kept k)
theorem Inv.laid {a : Addr} {o : HO} {t' : Nat} (I : Inv X pins σ H s) (k : ∀ b u, s.heap.get? b = some u → h'.get? b = some u) (hp : s.heap.objs.size ≤ a) (new : cj X.prog X.w (upd H a o) h' a o) :
  Inv X pins σ (upd H a o) { s with heap := h', toks := t' } := I.un (Un.laid k hp (I.hok.fresh hp)) (I.hok.laid k hp new)
theorem Inv.write {x e : Addr} {o : HO} {t' : Nat} (I : Inv X pins σ H s) (mu : Mut (H x)) (he : e = x ∨ H e = some (.own x)) (k : ∀ b u, b ≠ e → s.heap.get? b = some u → h'.get? b = some u) (heo : ∃ u, h'.get? e = some u)
  (new : cj X.prog X.w (upd H x o) h' x o) : Inv X pins σ (upd H x o) { s with heap := h', toks := t' } := I.un (Un.write mu he k heo) (I.hok.write mu he k heo new)
theorem Inv.pins_of {pins' : List (Addr × Obj)} (I : Inv X pins σ H s) (h : ∀ p ∈ pins', s.heap.get? p.1 = some p.2 ∧ H p.1 = none ∧ p.1 ≠ X.env.locals ∧ p.1 ∉ X.fs ∧ ∀ v, p.2.data ≠ .cell v) : Inv X pins' σ H s :=
 ⟨I.ok, I.os, I.bare, I.base, I.loc, I.cell, I.free, I.freeC, fun p hp => (List.mem_append.mp hp).elim (fun z => I.pin p (List.mem_append_left _ z)) (h p), I.hok, I.len⟩
theorem pX {N : List Str} (hN : N.Nodup) {i j : Nat} {x : Str} (a : N[i]? = some x) (b : N[j]? = some x) : i = j := by
 obtain ⟨h1, e1⟩ := List.getElem?_eq_some_iff.mp a
 obtain ⟨h2, e2⟩ := List.getElem?_eq_some_iff.mp b
 exact (List.getElem_inj hN).mp (e1.trans e2.symm)
theorem nG {M : Model} {A : Around} {E : Value → Shared → Prop} {i : Nat} {x : Str} {v : V} {u : Value} {Q : Unit → Shared → Prop} (I : Inv X pins σ H s) (hN : X.N.Nodup) (hi : X.N[i]? = some x) (hx : Loc X.env.scope x) (r : RelV v u)
  (h : ∀ s', Inv X pins (σ.set i (some v)) H s' → (∃ a, Heap.SameBut a s.heap s'.heap ∧ (a = X.env.locals ∨ X.env.cells.lookup x = some a)) → Q () s') (hf : X.fn x = true ∨ X.env.scope.names.lookup x = some .local := by first | exact .inl rfl | exact .inr rfl | assumption) : wpAny M A (storeName X.env x u) Q E s := by
 obtain ⟨m, hn, hl⟩ := id I.loc
 have hcls : (X.env.scope.kind == .class || (X.env.scope.kind == .module && X.env.locals != X.env.globals)) = false := by rw [I.ok.kind]; rfl
 have hiσ : i < σ.length := by rw [I.len]; exact (List.getElem?_eq_some_iff.mp hi).1
 have cne := I.cne
 have tracked : ∀ {a : Addr} {h' : Heap}, (∃ o, s.heap.get? a = some o ∧ H a = none) → Heap.SameBut a s.heap h' → HOk X.prog X.w H h' := fun {a h'} ha hs b ob e => by
  obtain ⟨_, _, hfree⟩ := ha
  refine (I.hok b ob e).stay (fun c w' hc q => (hs.2 c ?_).trans q) (fun _ q => q) fun _ _ q => q
  rintro rfl
  rcases hc with rfl | hc
  ·rw [hfree] at e; cases e
  ·rw [hfree] at hc; cases hc
 rcases hx with hk | hk
 ·refine wpAny_storeName_local hk hn (fun h' hn' hs => ?_) hcls
  obtain ⟨oL, _, _, hoL, _⟩ := id hn
  refine h _ ⟨I.ok, I.os, I.bare, ⟨fun b o e n hb hx => ?_, fun b o e n hb hx => ?_, I.base.free, fun b o e hx => ?_, I.base.tups, I.base.frzs, I.base.tbls⟩, ⟨_, hn', fun j y v' e1 e2 e3 => ?_⟩, fun y c e => ?_, I.free, I.freeC, fun p hp => ?_, tracked ⟨oL, hoL, I.free⟩ hs, by simpa using I.len⟩ ⟨_, hs, .inl rfl⟩
  ·exact (hs.2 b (Nat.ne_of_lt (Nat.lt_of_lt_of_le (Heap.lt_size e) I.ok.above))).trans (I.base.keep b o e n hb hx)
  ·obtain ⟨sl, e1⟩ := I.base.slot b o e n hb hx
   exact ⟨sl, (hs.2 b (Nat.ne_of_lt (Nat.lt_of_lt_of_le (Heap.lt_size e) I.ok.above))).trans e1⟩
  ·obtain ⟨o', e1⟩ := I.base.there b o e hx
   exact ⟨o', (hs.2 b (Nat.ne_of_lt (Nat.lt_of_lt_of_le (Heap.lt_size e) I.ok.above))).trans e1⟩
  ·by_cases hj : j = i
   ·subst hj
    rw [hi] at e1; cases e1
    rw [List.getElem?_set_self hiσ] at e2
    cases e2
    exact ⟨u, r, .inl ⟨hk, by simp⟩⟩
   ·rw [List.getElem?_set_ne (Ne.symm hj)] at e2
    obtain ⟨u', r', q⟩ := hl j y v' e1 e2 e3
    refine ⟨u', r', ?_⟩
    rcases q with ⟨k, e⟩ | ⟨k, c, e, z⟩
    ·refine .inl ⟨k, ?_⟩
     have : y ≠ x := fun e => hj (pX hN e1 (e ▸ hi))
     simp [this, e]
    ·exact .inr ⟨k, c, e, z.sameBut hs (cne y c e)⟩
  ·obtain ⟨w', z⟩ := I.cell y c e
   exact ⟨w', z.sameBut hs (cne y c e)⟩
  ·obtain ⟨e, n, ne, nf, d⟩ := I.pin p hp
   exact ⟨(hs.2 p.1 ne).trans e, n, ne, nf, d⟩
 ·have hfn : X.fn x = true := by
   rcases hf with z | z
   ·exact z
   ·rw [z] at hk; cases hk
  obtain ⟨c, hc⟩ := I.ok.has x (.inl hk)
  obtain ⟨w', z⟩ := I.cell x c hc
  refine wpAny_storeName_cell I.ok.kind hk hc z (fun h' hc' hs => ?_)
  obtain ⟨oc, hoc, hocd⟩ := id z
  refine h { s with heap := h' } ⟨I.ok, I.os, I.bare, ⟨fun b o e n hb hx => ?_, fun b o e n hb hx => ?_, I.base.free, fun b o e hx => ?_, I.base.tups, I.base.frzs, I.base.tbls⟩, ⟨m, hn.sameBut hs (Ne.symm (cne x c hc)), fun j y v' e1 e2 e3 => ?_⟩, fun y c' e => ?_, I.free, I.freeC, fun p hp => ?_, tracked ⟨oc, hoc, I.freeC x c hc⟩ hs, by simpa using I.len⟩ ⟨c, hs, .inr hc⟩
  ·exact (hs.2 b (Nat.ne_of_lt (Nat.lt_of_lt_of_le (Heap.lt_size e) (I.ok.cab x c hfn hc)))).trans (I.base.keep b o e n hb hx)
  ·obtain ⟨sl, e1⟩ := I.base.slot b o e n hb hx
   exact ⟨sl, (hs.2 b (Nat.ne_of_lt (Nat.lt_of_lt_of_le (Heap.lt_size e) (I.ok.cab x c hfn hc)))).trans e1⟩
  ·obtain ⟨o', e1⟩ := I.base.there b o e hx
   exact ⟨o', (hs.2 b (Nat.ne_of_lt (Nat.lt_of_lt_of_le (Heap.lt_size e) (I.ok.cab x c hfn hc)))).trans e1⟩
  ·by_cases hj : j = i
   ·subst hj
    rw [hi] at e1; cases e1
    rw [List.getElem?_set_self hiσ] at e2
    cases e2
    exact ⟨u, r, .inr ⟨.inl hk, c, hc, hc'⟩⟩
   ·rw [List.getElem?_set_ne (Ne.symm hj)] at e2
    obtain ⟨u', r', q⟩ := hl j y v' e1 e2 e3
    refine ⟨u', r', ?_⟩
    rcases q with q | ⟨k, c', e, z'⟩
    ·exact .inl q
    ·refine .inr ⟨k, c', e, z'.sameBut hs ?_⟩
     rintro rfl
     exact hj (pX hN e1 (I.ok.inj _ _ _ e hc ▸ hi))
  ·by_cases hcc : c' = c
   ·subst hcc; exact ⟨_, hc'⟩
   ·obtain ⟨w2, z2⟩ := I.cell y c' e
    exact ⟨w2, z2.sameBut hs hcc⟩
  ·obtain ⟨e, n, ne, nf, d⟩ := I.pin p hp
   refine ⟨(hs.2 p.1 ?_).trans e, n, ne, nf, d⟩
   intro q
   rw [q, hoc] at e
   have q' : oc = p.2 := Option.some.inj e
   exact d w' (by rw [← q']; exact hocd)
theorem lF {M : Model} {A : Around} {E : Value → Shared → Prop} {i : Nat} {x : Str} {v : V} {u : Value} {Q : Unit → Shared → Prop} (I : Inv X pins σ H s) (hN : X.N.Nodup) (hi : X.N[i]? = some x) (hx : Loc X.env.scope x) (r : RelV v u)
  (h : ∀ s', Inv X pins (σ.set i (some v)) H s' → Q () s') (hf : X.fn x = true ∨ X.env.scope.names.lookup x = some .local := by first | exact .inl rfl | exact .inr rfl | assumption) : wpAny M A (storeName X.env x u) Q E s :=
 nG I hN hi hx r (fun s' I' _ => h s' I') hf
theorem Inv.call' {s' : Shared} {ch : List Addr} (I : Inv X pins σ H s) (ho : s'.os = s.os) (u : Un (frs X.stack) ch H H' s.heap s'.heap) (hok : HOk X.prog X.w H' s'.heap) (hg : AllBare s'.gens)
  (hch : ∀ b ∈ ch, (b ∈ X.ex ∨ X.s₀.heap.objs.size ≤ b) ∧ b ≠ X.env.locals ∧ (∀ x c, X.env.cells.lookup x = some c → c ≠ b) ∧ ∀ p ∈ X.pn ++ pins, p.1 ≠ b) : Inv X pins σ H' s' := by
 obtain ⟨h', g', d', t', o'⟩ := s'
 have e : o' = s.os := ho
 subst e
 exact I.call (g' := g') (t' := t') (d' := d') u hok hg hch
end
abbrev XK := Value → Option Addr → Hp → Prop
abbrev St := List (Option V)
abbrev VK := V → Hp → Prop
abbrev TE := St → Hp → VK → Prop
abbrev TT := St → Hp → (Bool → Hp → Prop) → Prop
abbrev TA := St → Hp → (List V → Hp → Prop) → Prop
structure Ends where
 nx : St → Hp → Prop
 rt : VK
 bk : St → Hp → Prop := fun _ _ => False
 ct : St → Hp → Prop := fun _ _ => False
abbrev TS := Ends → St → Hp → Prop
def EP (X : Cx) (pins : List (Addr × Obj)) (σ : St) (Q : VK) (u : Value) (s' : Shared) : Prop := ∃ v H', Inv X pins σ H' s' ∧ RelV v u ∧ Q v H'
def TP (X : Cx) (pins : List (Addr × Obj)) (σ : St) (Q : Bool → Hp → Prop) (b : Bool) (s' : Shared) : Prop := ∃ H', Inv X pins σ H' s' ∧ Q b H'
def AP (X : Cx) (pins : List (Addr × Obj)) (σ : St) (Q : List V → Hp → Prop) (us : List Value) (s' : Shared) : Prop := ∃ vs H', Inv X pins σ H' s' ∧ Vals vs us ∧ Q vs H'
def SP (X : Cx) (pins : List (Addr × Obj)) (D : Ends) (f : Flow) (s' : Shared) : Prop :=
 match f with
 | .next => ∃ σ' H', Inv X pins σ' H' s' ∧ D.nx σ' H'
 | .brk => ∃ σ' H', Inv X pins σ' H' s' ∧ D.bk σ' H'
 | .cont => ∃ σ' H', Inv X pins σ' H' s' ∧ D.ct σ' H'
 | .ret u => ∃ v σ' H', Inv X pins σ' H' s' ∧ RelV v u ∧ D.rt v H'
def PE (X : Cx) (e : Expr) (t : TE) : Prop :=
 ∀ (pins : List (Addr × Obj)) (s : Shared) (σ : St) (H : Hp) (Q : VK), Inv X pins σ H s → t σ H Q → wpAny (model X.prog X.w) X.A (eval e X.env) (EP X pins σ Q) X.xe s
def PT (X : Cx) (e : Expr) (t : TT) : Prop :=
 ∀ (pins : List (Addr × Obj)) (s : Shared) (σ : St) (H : Hp) (Q : Bool → Hp → Prop), Inv X pins σ H s → t σ H Q → wpAny (model X.prog X.w) X.A (isTrue e X.env (eval e X.env)) (TP X pins σ Q) X.xe s
def PW (X : Cx) (e : Expr) (t : TT) : Prop :=
 ∀ (whole : Sem Value) (pins : List (Addr × Obj)) (s : Shared) (σ : St) (H : Hp) (Q : Bool → Hp → Prop), Inv X pins σ H s → t σ H Q → wpAny (model X.prog X.w) X.A (isTrue e X.env whole) (TP X pins σ Q) X.xe s
theorem PW.pt {X : Cx} {e : Expr} {t : TT} (h : PW X e t) : PT X e t := h _
def PA (X : Cx) (es : List Expr) (t : TA) : Prop :=
 ∀ (pos : Pos) (pins : List (Addr × Obj)) (s : Shared) (σ : St) (H : Hp) (Q : List V → Hp → Prop), Inv X pins σ H s → t σ H Q → wpAny (model X.prog X.w) X.A (spliced (backTo pos (starEach es X.env))) (AP X pins σ Q) X.xe s
def PS (X : Cx) (st : Stmt) (t : TS) : Prop :=
 ∀ (pins : List (Addr × Obj)) (s : Shared) (σ : St) (H : Hp) (D : Ends), Inv X pins σ H s → t D σ H → wpAny (model X.prog X.w) X.A (exec st X.env) (SP X pins D) X.xe s
def PSs (X : Cx) (st : List Stmt) (t : TS) : Prop :=
 ∀ (pins : List (Addr × Obj)) (s : Shared) (σ : St) (H : Hp) (D : Ends), Inv X pins σ H s → t D σ H → wpAny (model X.prog X.w) X.A (execs st X.env) (SP X pins D) X.xe s
theorem thn {α : Type} {t : Sem α} {Q Q' : α → Shared → Prop} {M : Model} {A : Around} {E : Value → Shared → Prop} {s : Shared} (h : wpAny M A t Q E s) (hQ : ∀ a s, Q a s → Q' a s) : wpAny M A t Q' E s := wpAny_mono h hQ fun _ _ x => x
end L2
namespace L2
open PySem PySem.Spec PyProof.Rows
section
variable {X : Cx}
theorem bin {a b : Expr} {ta tb : TE} (ha : PE X a ta) (hb : PE X b tb) {pins : List (Addr × Obj)} {s : Shared} {σ : St} {H : Hp} {R : V → V → Hp → Prop} (I : Inv X pins σ H s) (h : ta σ H fun x H1 => tb σ H1 fun y H2 => R x y H2)
  {α : Type} {Q : α → Shared → Prop} {f : Value → Value → Sem α}
  (hf : ∀ v u s2 x y H2, Inv X pins σ H2 s2 → RelV x v → RelV y u → R x y H2 → wpAny (model X.prog X.w) X.A (f v u) Q X.xe s2) :
  wpAny (model X.prog X.w) X.A (eval a X.env) (fun v s₁ => wpAny (model X.prog X.w) X.A (eval b X.env) (fun u s₂ => wpAny (model X.prog X.w) X.A (f v u) Q X.xe s₂) X.xe s₁) X.xe s := by
 refine thn (ha pins s σ H _ I h) fun v s1 ⟨x, H1, I1, r1, q1⟩ => ?_
 refine thn (hb pins s1 σ H1 _ I1 q1) fun u s2 ⟨y, H2, I2, r2, q2⟩ => ?_
 exact hf v u s2 x y H2 I2 r1 r2 q2
def Dz (i : Nat) : TE := fun σ H Q => ∃ v, σ[i]? = some (some v) ∧ Q v H
def tC (v : V) : TE := fun _ H Q => Q v H
theorem xf {i : Nat} {x : Str} {pos : Pos} (hN : X.N[i]? = some x) (hv : Vis X.env.scope x) (hd : (x == ("__debug__" : Str)) = false := by decide) (hcd : (x == ("__classdict__" : Str)) = false := by decide) : PE X (.Name x pos) (Dz i) := by
 intro pins s σ H Q I h
 obtain ⟨v, e, h⟩ := h
 obtain ⟨m, hn, hl⟩ := I.loc
 obtain ⟨u, r, l⟩ := hl i x v hN e hv
 have fin : EP X pins σ Q u s := ⟨v, H, I, r, h⟩
 rcases l with ⟨hk, hm⟩ | ⟨hk, c, hc, hcell⟩
 ·exact wpAny_Name (wpAny_loadName_local I.ok.kind hk hn hm fin) hd
 ·rcases hk with hk | hk
  ·exact wpAny_Name (wpAny_loadName_cell I.ok.kind hk hc hcell fin) hd
  ·exact wpAny_Name (wpAny_loadName_free I.ok.kind hk hc hcell fin hcd) hd
theorem aq {i j pos} : PE X (.Constant (.int i) j pos) (tC (.int i)) := fun _ _ _ H _ I h => wpAny_Constant_int ⟨.int i, H, I.tok _, ⟨_, rfl⟩, h⟩
theorem gm {b j pos} : PE X (.Constant (.bool b) j pos) (tC (.bl b)) := fun _ _ _ H _ I h => Constant_bool ⟨.bl b, H, I, rfl, h⟩
theorem fc {j pos} : PE X (.Constant .none j pos) (tC .non) := fun _ _ _ H _ I h => Constant_none ⟨.non, H, I, rfl, h⟩
theorem Dk {x j pos} : PE X (.Constant (.str x) j pos) (tC (.str x)) := fun _ _ _ H _ I h => Calls.Constant_str ⟨.str x, H, I.tok _, ⟨_, rfl⟩, h⟩
def Gl (X : Cx) (x : Str) : Prop := X.env.kindOf x = some .globalImplicit
theorem lU {E : Value → Shared → Prop} {pins : List (Addr × Obj)} {s : Shared} {σ : St} {H : Hp} {x : Str} {u : Value} {pos : Pos} {Q : Value → Shared → Prop} (I : Inv X pins σ H s) (hg : Gl X x) (hm : X.mg x = some u) (h : Q u s)
  (hd : (x == ("__debug__" : Str)) = false := by decide) : wpAny (model X.prog X.w) X.A (eval (.Name x pos) X.env) Q E s :=
 Calls.Name_function_global I.ok.kind hg (Calls.loadGlobal_global (by rw [I.ok.glob]; exact I.mod.glob.keeps I.bk) hm h) hd
theorem dD {E : Value → Shared → Prop} {pins : List (Addr × Obj)} {s : Shared} {σ : St} {H : Hp} {x : Str} {u : Value} {pos : Pos} {Q : Value → Shared → Prop} (I : Inv X pins σ H s) (hg : Gl X x) (hm : X.mg x = none) (hv : bootBuiltins x = some u) (h : Q u s)
  (hn : x ≠ "__name__" := by decide) (hd : (x == ("__debug__" : Str)) = false := by decide) : wpAny (model X.prog X.w) X.A (eval (.Name x pos) X.env) Q E s := by
 obtain ⟨mb, h1, h2⟩ := I.mod.blt
 exact Calls.Name_function_global I.ok.kind hg (Calls.loadGlobal_builtin (by rw [I.ok.glob]; exact I.mod.glob.keeps I.bk) hm (by rw [I.ok.blt]; exact h1.keeps I.bk) ((h2 x hn).trans hv) h) hd
theorem bc {x : Str} {v : V} {u : Value} {pos : Pos} (hg : Gl X x) (hm : X.mg x = some u) (r : RelV v u) (hd : (x == ("__debug__" : Str)) = false := by decide) : PE X (.Name x pos) (tC v) :=
 fun _ _ _ H _ I h => lU I hg hm ⟨v, H, I, r, h⟩ hd
theorem sI {x : Str} {v : V} {u : Value} {pos : Pos} (hg : Gl X x) (hm : X.mg x = none) (hv : bootBuiltins x = some u) (r : RelV v u) (hn : x ≠ "__name__" := by decide) (hd : (x == ("__debug__" : Str)) = false := by decide) : PE X (.Name x pos) (tC v) :=
 fun _ _ _ H _ I h => dD I hg hm hv ⟨v, H, I, r, h⟩ hn hd
variable {a b : Expr} {ta tb : TE} {pos : Pos}
def PC (X : Cx) (op : CmpOp) (a b : Expr) (t : TE) : Prop :=
 ∀ (pins : List (Addr × Obj)) (s : Shared) (σ : St) (H : Hp) (Q : VK), Inv X pins σ H s → t σ H Q →
  wpAny (model X.prog X.w) X.A (eval a X.env) (fun v s₁ => wpAny (model X.prog X.w) X.A (eval b X.env) (fun u s₂ => wpAny (model X.prog X.w) X.A (compareOp op v u) (EP X pins σ Q) X.xe s₂) X.xe s₁) X.xe s
theorem zE (b : Expr) {op : CmpOp} (h : op ≠ .In) (h2 : op ≠ .NotIn) : behindInMarks op b = false := by
 have e1 : (op == CmpOp.In) = false := by cases op <;> first | rfl | exact absurd rfl h
 have e2 : (op == CmpOp.NotIn) = false := by cases op <;> first | rfl | exact absurd rfl h2
 cases b <;> simp [behindInMarks, e1, e2]
def Gf (ta : TE) : TE := fun σ H Q => ta σ H fun x H1 => Q (.bl (decide (x = .non))) H1
def Es (ta : TE) : TE := fun σ H Q => ta σ H fun x H1 => Q (.bl (!decide (x = .non))) H1
theorem RelV.none_iff {x : V} {v : Value} (r : RelV x v) : (v == Value.none) = decide (x = .non) := by
 cases x with
 | non => cases r; rfl
 | bl _ => cases r; rfl
 | int _ => obtain ⟨t, rfl⟩ := r; rfl
 | str _ => obtain ⟨t, rfl⟩ := r; rfl
 | byt _ => obtain ⟨t, rfl⟩ := r; rfl
 | flt _ => obtain ⟨t, rfl⟩ := r; rfl
 | ref _ => cases r; rfl
 | ty _ => cases r; rfl
theorem mW {j pos'} (ha : PE X a ta) : PC X .Is a (.Constant .none j pos') (Gf ta) := by
 intro pins s σ H Q I h
 refine thn (ha pins s σ H _ I h) fun v s1 ⟨x, H1, I1, r1, q1⟩ => ?_
 exact Constant_none (is_none_gen ⟨.bl _, H1, I1, by rw [r1.none_iff]; rfl, q1⟩)
theorem xY {j pos'} (ha : PE X a ta) : PC X .IsNot a (.Constant .none j pos') (Es ta) := by
 intro pins s σ H Q I h
 refine thn (ha pins s σ H _ I h) fun v s1 ⟨x, H1, I1, r1, q1⟩ => ?_
 exact Constant_none (isnot_none_gen ⟨.bl _, H1, I1, by rw [r1.none_iff]; rfl, q1⟩)
def tB (t : TE) : TT := fun σ H Q => t σ H fun x H1 => ∃ c, x = .bl c ∧ Q c H1
theorem jl {op : CmpOp} {t : TE} (h : PC X op a b t) (h1 : behindInMarks op b = false := by first | exact zE _ (by decide) (by decide) | rfl) : PT X (.Compare a [op] [b] pos) (tB t) := by
 intro pins s σ H Q I hw
 refine wpAny_isTrue_Compare1 (thn (h pins s σ H _ I hw) fun v s1 h1 => thn h1 fun u s2 h2 => thn h2 fun c s3 ⟨x, H1, I1, r1, q1⟩ => ?_) h1
 obtain ⟨d, rfl, q⟩ := q1
 cases r1
 exact wpAny_truthy_bool ⟨H1, I1, q⟩
theorem pJ {e : Expr} {t : TE} (h : PE X e t) (he : ∀ whole, isTrue e X.env whole = (do let v ← whole; standAt e.pos; holding [v] (truthy v)) := by intro _; rfl) : PT X e (tB t) := by
 intro pins s σ H Q I hw
 refine isTrue_plain (thn (h pins s σ H _ I hw) fun v s1 ⟨x, H1, I1, r1, q1⟩ => ?_) (he _)
 obtain ⟨d, rfl, q⟩ := q1
 cases r1
 exact wpAny_truthy_bool ⟨H1, I1, q⟩
variable {tA tB' : TT} {rest : List Expr}
def FW (t u : TT) : TT := fun σ H Q => t σ H fun c H1 => if c = true then u σ H1 Q else Q false H1
def tOr (t u : TT) : TT := fun σ H Q => t σ H fun c H1 => if c = true then Q true H1 else u σ H1 Q
def FT (t : TT) : TT := fun σ H Q => t σ H fun c H1 => Q (!c) H1
theorem jV (ha : PT X a tA) : PW X (.BoolOp .And [a] pos) tA := by
 intro wh pins s σ H Q I h
 refine isTrue_and (thn (ha pins s σ H Q I h) fun c s1 e => ?_)
 cases c with
 | true => exact isTrue_and_nil e
 | false => exact e
theorem pA (ha : PT X a tA) : PW X (.BoolOp .Or [a] pos) tA := by
 intro wh pins s σ H Q I h
 refine isTrue_or (thn (ha pins s σ H Q I h) fun c s1 e => ?_)
 cases c with
 | false => exact isTrue_or_nil e
 | true => exact e
theorem lg (ha : PT X a tA) (hb : PW X (.BoolOp .And (b :: rest) pos) tB') : PW X (.BoolOp .And (a :: b :: rest) pos) (FW tA tB') := by
 intro wh pins s σ H Q I h
 refine isTrue_and (thn (ha pins s σ H _ I h) fun c s1 ⟨H1, I1, q1⟩ => ?_)
 cases c with
 | true => exact hb wh pins s1 σ H1 Q I1 q1
 | false => exact ⟨H1, I1, q1⟩
theorem pK (ha : PT X a tA) (hb : PW X (.BoolOp .Or (b :: rest) pos) tB') : PW X (.BoolOp .Or (a :: b :: rest) pos) (tOr tA tB') := by
 intro wh pins s σ H Q I h
 refine isTrue_or (thn (ha pins s σ H _ I h) fun c s1 ⟨H1, I1, q1⟩ => ?_)
 cases c with
 | true => exact ⟨H1, I1, q1⟩
 | false => exact hb wh pins s1 σ H1 Q I1 q1
theorem qg (ha : PT X a tA) : PT X (.UnaryOp .Not a pos) (FT tA) := by
 intro pins s σ H Q I h
 exact isTrue_not (ha pins s σ H (fun c H1 => Q (!c) H1) I h)
def Ew (ta tb : TE) : TE := fun σ H Q => ta σ H fun x H1 => ∃ c, x = .bl c ∧ if c = true then tb σ H1 Q else Q (.bl false) H1
def EY (ta : TE) : TE := fun σ H Q => ta σ H fun x H1 => ∃ c, x = .bl c ∧ Q (.bl (!c)) H1
theorem zA {op} {t : TE} (h : PE X a t) : PE X (.BoolOp op [a] pos) t := fun pins s σ H Q I hw => BoolOp_one (h pins s σ H Q I hw)
theorem Ak (ha : PE X a ta) (hb : PE X (.BoolOp .And (b :: rest) pos) tb) : PE X (.BoolOp .And (a :: b :: rest) pos) (Ew ta tb) := by
 intro pins s σ H Q I h
 refine BoolOp_and (thn (ha pins s σ H _ I h) fun v s1 ⟨x, H1, I1, r1, q1⟩ => ?_)
 obtain ⟨c, rfl, q1⟩ := q1
 cases r1
 refine wpAny_truthy_bool ?_
 cases c with
 | true => exact hb pins s1 σ H1 Q I1 q1
 | false => exact ⟨.bl false, H1, I1, rfl, q1⟩
theorem DY (ha : PE X a ta) : PE X (.UnaryOp .Not a pos) (EY ta) := by
 intro pins s σ H Q I h
 refine UnaryOp_ (thn (ha pins s σ H _ I h) fun v s1 ⟨x, H1, I1, r1, q1⟩ => ?_)
 obtain ⟨c, rfl, q1⟩ := q1
 cases r1
 exact not_of (wpAny_truthy_bool ⟨.bl (!c), H1, I1, rfl, q1⟩)
end
end L2
namespace L2
open PySem PySem.Spec PyProof.Rows
def SqL (K : PySem.W.Frag) (H : Hp) (a : Addr) (xs : List V) : Prop :=
 Rd H a (.lst xs) ∨
  ∃ (o : Obj) (its : Array Value) (n : Nat), K.lookup a = some o ∧ o.cls = .type "list" ∧ o.dict = none ∧ o.data = .seq its n ∧ its.size ≤ sizeLine ∧ Vals xs its.toList
def SqT (K : PySem.W.Frag) (H : Hp) (a : Addr) (xs : List V) : Prop :=
 Rd H a (.tup xs) ∨
  ∃ (o : Obj) (its : Array Value) (n : Nat), K.lookup a = some o ∧ o.cls = .type "tuple" ∧ o.data = .seq its n ∧ its.size ≤ sizeLine ∧ Vals xs its.toList
def Gi : Value → Option V
 | .none => some .non
 | .bool b => some (.bl b)
 | .int i _ => some (.int i)
 | .str x _ => some (.str x)
 | .bytes b _ => some (.byt b)
 | .float b _ => some (.flt b)
 | .ref a => some (.ref a)
 | .type n => some (.ty n)
 | _ => none
theorem RelV.abs {x : V} {u : Value} (r : RelV x u) : Gi u = some x := by
 cases x with
 | non => cases r; rfl
 | bl _ => cases r; rfl
 | int _ => obtain ⟨t, rfl⟩ := r; rfl
 | str _ => obtain ⟨t, rfl⟩ := r; rfl
 | byt _ => obtain ⟨t, rfl⟩ := r; rfl
 | flt _ => obtain ⟨t, rfl⟩ := r; rfl
 | ref _ => cases r; rfl
 | ty _ => cases r; rfl
theorem RelV.inj {x y : V} {u : Value} (r : RelV x u) (q : RelV y u) : x = y := Option.some.inj (r.abs.symm.trans q.abs)
theorem Vals.inj : ∀ {xs ys : List V} {us : List Value}, Vals xs us → Vals ys us → xs = ys
 | _, _, _, .nil, .nil => rfl
 | _, _, _, .cons r t, .cons r' t' => by rw [r.inj r', Vals.inj t t']
section
variable {X : Cx} {pins : List (Addr × Obj)} {σ : St} {H : Hp} {s : Shared} {a : Addr} {xs ys : List V}
theorem SqL.of {K : PySem.W.Frag} (h : H a = some (.lst xs)) : SqL K H a xs := .inl (.inl h)
theorem SqT.of {K : PySem.W.Frag} (h : H a = some (.tup xs)) : SqT K H a xs := .inl (.inl h)
theorem Inv.list (I : Inv X pins σ H s) (h : SqL X.K H a xs) : ∃ its : List Value, Vals xs its ∧ PlainL s.heap a its.toArray ∧ xs.length ≤ sizeLine := by
 rcases h with h | ⟨o, its, n, hk, hc, hd, hs, hz, r⟩
 ·obtain ⟨z, its, n, r, e⟩ := h.ok I.hok
  exact ⟨its, r, ⟨_, n, e, rfl, rfl, rfl⟩, z⟩
 ·refine ⟨its.toList, r, ⟨o, n, I.kIn a o hk, hc, hd, by simpa using hs⟩, ?_⟩
  have e := r.length
  simp only [Array.length_toList] at e
  omega
theorem Inv.tuple (I : Inv X pins σ H s) (h : SqT X.K H a xs) : ∃ its : List Value, Vals xs its ∧ IsTup s.heap a its.toArray ∧ xs.length ≤ sizeLine := by
 rcases h with h | ⟨o, its, n, hk, hc, hs, hz, r⟩
 ·obtain ⟨z, its, r, p⟩ := h.ok I.hok
  exact ⟨its, r, p, z⟩
 ·refine ⟨its.toList, r, ⟨o, I.kIn a o hk, hc, n, by simpa using hs⟩, ?_⟩
  have e := r.length
  simp only [Array.length_toList] at e
  omega
theorem Inv.list_inj (I : Inv X pins σ H s) (h : SqL X.K H a xs) (h' : SqL X.K H a ys) : xs = ys := by
 obtain ⟨its, r, ⟨o, n, e, _, _, d⟩, _⟩ := I.list h
 obtain ⟨its', r', ⟨o', n', e', _, _, d'⟩, _⟩ := I.list h'
 rw [e] at e'; cases e'
 rw [d] at d'
 injection d' with d1 _
 have : its = its' := by simpa using congrArg Array.toList d1
 subst this
 exact r.inj r'
end
abbrev Cx.wish (X : Cx) (E : Value → Shared → Prop) : Cx := { X with xe := E }
abbrev Cx.nox (X : Cx) : Cx := X.wish fun _ _ => False
theorem Cx.Ok.wish {X : Cx} (ok : X.Ok) (E : Value → Shared → Prop) : (X.wish E).Ok :=
 ⟨ok.mod, ok.kind, ok.glob, ok.blt, ok.above, ok.inj, ok.has, ok.cab, ok.hd, ok.frames, ok.stk, ok.exf, ok.bs, ok.bsz, ok.noex, ok.exfs, ok.funs, ok.frf⟩
theorem Cx.Ok.unwish {X : Cx} {E : Value → Shared → Prop} (ok : (X.wish E).Ok) : X.Ok :=
 ⟨ok.mod, ok.kind, ok.glob, ok.blt, ok.above, ok.inj, ok.has, ok.cab, ok.hd, ok.frames, ok.stk, ok.exf, ok.bs, ok.bsz, ok.noex, ok.exfs, ok.funs, ok.frf⟩
section
variable {X : Cx} {pins : List (Addr × Obj)} {σ : St} {H : Hp} {s : Shared} {E : Value → Shared → Prop}
theorem Inv.wish (I : Inv X pins σ H s) (E : Value → Shared → Prop) : Inv (X.wish E) pins σ H s := ⟨I.ok.wish E, I.os, I.bare, I.base, I.loc, I.cell, I.free, I.freeC, I.pin, I.hok, I.len⟩
theorem Inv.unwish (I : Inv (X.wish E) pins σ H s) : Inv X pins σ H s := ⟨I.ok.unwish, I.os, I.bare, I.base, I.loc, I.cell, I.free, I.freeC, I.pin, I.hok, I.len⟩
theorem SP.unwish {D : Ends} {f : Flow} {s' : Shared} (h : SP (X.wish E) pins D f s') : SP X pins D f s' := by
 cases f with
 | next => obtain ⟨σ', H', I, q⟩ := h; exact ⟨σ', H', I.unwish, q⟩
 | brk => obtain ⟨σ', H', I, q⟩ := h; exact ⟨σ', H', I.unwish, q⟩
 | cont => obtain ⟨σ', H', I, q⟩ := h; exact ⟨σ', H', I.unwish, q⟩
 | ret u => obtain ⟨v, σ', H', I, r, q⟩ := h; exact ⟨v, σ', H', I.unwish, r, q⟩
theorem PSs.nox {st : List Stmt} {t : TS} (h : PSs X.nox st t) : PSs X st t := fun pins s σ H D I hw =>
 wpAny_mono (h pins s σ H D (I.wish _) hw) (fun _ _ q => q.unwish) fun _ _ z => False.elim z
end
section
variable {X : Cx} {st : Stmt} {rest : List Stmt} {t u : TS} {e : Expr} {te : TE} {pos : Pos}
def zX : TS := fun D σ H => D.nx σ H
def FZ (t u : TS) : TS := fun D σ H => t { D with nx := u D } σ H
theorem aO : PSs X [] zX := fun _ _ σ H _ I h => wpAny_execs_nil ⟨σ, H, I, h⟩
theorem aj (h1 : PS X st t) (h2 : PSs X rest u) : PSs X (st :: rest) (FZ t u) := by
 intro pins s σ H D I h
 refine wpAny_execs_cons (thn (h1 pins s σ H { D with nx := u D } I h) fun f s1 q => ?_)
 cases f with
 | next =>
  obtain ⟨σ', H', I', q⟩ := q
  exact h2 pins s1 σ' H' D I' q
 | ret v => exact q
 | brk => exact q
 | cont => exact q
theorem au (h1 : PS X st t) : PSs X [st] t := by
 intro pins s σ H D I h
 refine wpAny_execs_cons (thn (h1 pins s σ H D I h) fun f s1 q => ?_)
 cases f with
 | next => exact wpAny_execs_nil q
 | ret v => exact q
 | brk => exact q
 | cont => exact q
theorem Inv.quiet {pins : List (Addr × Obj)} {σ : St} {H : Hp} {s : Shared} (I : Inv X pins σ H s) : interactive X.env = false := by simp [interactive, I.ok.kind]
def FJ (te : TE) : TS := fun D σ H => te σ H fun _ H1 => D.nx σ H1
theorem bj (he : PE X e te) (hs : swapsWith e none pos.line X.env = pure false := by rfl) : PS X (.Expr e pos) (FJ te) := by
 intro pins s σ H D I h
 exact wpAny_Expr_any (thn (he pins s σ H _ I h) fun v s1 ⟨x, H1, I1, r1, q1⟩ => ⟨σ, H1, I1, q1⟩) I.quiet hs
def Gm (te : TE) : TS := fun D σ H => te σ H D.rt
theorem aH (he : PE X e te) : PS X (.Return (some e) pos) (Gm te) := by
 intro pins s σ H D I h
 exact wpAny_Return_some (thn (he pins s σ H _ I h) fun v s1 ⟨x, H1, I1, r1, q1⟩ => ⟨x, σ, H1, I1, r1, q1⟩)
def Gx (c : TT) (t u : TS) : TS := fun D σ H => c σ H fun b H1 => if b = true then t D σ H1 else u D σ H1
theorem aZ {c : Expr} {a b : List Stmt} {tc : TT} (hc : PT X c tc) (ha : PSs X a t) (hb : PSs X b u) : PS X (.If c a b pos) (Gx tc t u) := by
 intro pins s σ H D I h
 refine wpAny_If (thn (hc pins s σ H _ I h) fun d s1 ⟨H1, I1, q1⟩ => ?_)
 cases d with
 | true => exact ha pins s1 σ H1 D I1 q1
 | false => exact hb pins s1 σ H1 D I1 q1
def Dd : TS := fun _ _ _ => False
theorem cN : PS X st Dd := fun _ _ _ _ _ _ h => h.elim
end
abbrev TG := V → St → Hp → (St → Hp → Prop) → Prop
abbrev TGs := List V → St → Hp → (St → Hp → Prop) → Prop
def PG (X : Cx) (target : Expr) (t : TG) : Prop :=
 ∀ (pins : List (Addr × Obj)) (s : Shared) (σ : St) (H : Hp) (v : V) (u : Value) (Q : St → Hp → Prop), Inv X pins σ H s → RelV v u → t v σ H Q →
  wpAny (model X.prog X.w) X.A (assign target X.env u) (fun _ s' => ∃ σ' H', Inv X pins σ' H' s' ∧ Q σ' H') X.xe s
def PGs (X : Cx) (ts : List Expr) (t : TGs) : Prop :=
 ∀ (pins : List (Addr × Obj)) (s : Shared) (σ : St) (H : Hp) (vs : List V) (us : List Value) (Q : St → Hp → Prop), Inv X pins σ H s → Vals vs us → t vs σ H Q →
  wpAny (model X.prog X.w) X.A (assignInOrder ((assignEach ts X.env).map (·.2)) us) (fun _ s' => ∃ σ' H', Inv X pins σ' H' s' ∧ Q σ' H') X.xe s
abbrev DG := V → V → V → Hp → (Hp → Prop) → Prop
def Ex (X : Cx) (t : DG) : Prop :=
 ∀ (pins : List (Addr × Obj)) (s : Shared) (σ : St) (H : Hp) (o i v : V) (ov iv u : Value) (Q : Hp → Prop), Inv X pins σ H s → RelV o ov → RelV i iv → RelV v u → t o i v H Q →
  wpAny (model X.prog X.w) X.A (setItem ov iv u) (fun _ s' => ∃ H', Inv X pins σ H' s' ∧ Q H') X.xe s
section
variable {X : Cx} {pos : Pos}
def pG (i : Nat) : TG := fun v σ H Q => Q (σ.set i (some v)) H
theorem bh {i : Nat} {x : Str} (hN : X.N.Nodup) (hi : X.N[i]? = some x) (hx : Loc X.env.scope x) (hf : X.fn x = true ∨ X.env.scope.names.lookup x = some .local := by first | exact .inl rfl | exact .inr rfl | assumption) : PG X (.Name x pos) (pG i) := by
 intro pins s σ H v u Q I r h
 exact wpAny_assign_Name (lF I hN hi hx r (fun s' I' => ⟨_, H, I', h⟩) hf)
def Fl : TGs := fun vs σ H Q => vs = [] ∧ Q σ H
def Ah (t : TG) (u : TGs) : TGs := fun vs σ H Q => ∃ v r, vs = v :: r ∧ t v σ H fun σ' H' => u r σ' H' Q
theorem jU : PGs X [] Fl := by
 intro pins s σ H vs us Q I r h
 obtain ⟨e, h⟩ := h
 subst e
 cases r
 exact assignInOrder_nil ⟨σ, H, I, h⟩
theorem cF {e : Expr} {es : List Expr} {t : TG} {u : TGs} (h1 : PG X e t) (h2 : PGs X es u)
  (hs : (assignEach (e :: es) X.env).map (·.2) = assign e X.env :: (assignEach es X.env).map (·.2) := by rfl) : PGs X (e :: es) (Ah t u) := by
 intro pins s σ H vs us Q I r h
 obtain ⟨v, vr, e1, h⟩ := h
 subst e1
 cases r with
 | cons r rr =>
  rw [hs]
  refine assignInOrder_cons (thn (h1 pins s σ H _ _ _ I r h) fun _ s1 ⟨σ1, H1, I1, q1⟩ => ?_)
  exact h2 pins s1 σ1 H1 _ _ Q I1 rr q1
def Eu (K : PySem.W.Frag) (n : Nat) (t : TGs) : TG := fun v σ H Q => ∃ a xs, v = .ref a ∧ SqT K H a xs ∧ xs.length = n ∧ t xs σ H Q
theorem mU {es : List Expr} {k : Nat} {t : TGs} {n : Nat} (hc : X.calm = true) (h : PGs X es t)
  (hn : (assignEach es X.env).length = n := by rfl) (hst : (assignEach es X.env).findIdx? (·.1) = none := by rfl) : PG X (.Tuple es k pos) (Eu X.K n t) := by
 intro pins s σ H v u Q I r hw
 obtain ⟨a, xs, e1, hq, hl, hw⟩ := hw
 subst e1
 cases r
 obtain ⟨its, rv, ht, hz⟩ := I.tuple hq
 refine assign_Tuple_tuple (I.ok.hd hc) ht (by simp [hn, ← hl, rv.length]) hst fun h' hx => ?_
 have I1 : Inv X pins σ H { s with heap := h' } := I.kept (t' := s.toks) fun b o e => hx b o (Nat.ne_of_lt (Heap.lt_size e)) e
 exact h pins _ σ H xs _ Q I1 (by simpa using rv) hw
def Gq (to ti : TE) (t : DG) : TG := fun v σ H Q => to σ H fun o H1 => ti σ H1 fun i H2 => t o i v H2 fun H3 => Q σ H3
theorem Aq {o i : Expr} {to ti : TE} {t : DG} (ho : PE X o to) (hi : PE X i ti) (hs : Ex X t)
  (ha : ∀ v, assign (.Subscript o i pos) X.env v = (do
   let ov ← holding [v] (eval o X.env)
   let iv ← holding [v, ov] (eval i X.env)
   standAt pos
   holding [v, ov, iv] (setItem ov iv v)
   release [v, ov, iv] []) := by intro _; rfl) : PG X (.Subscript o i pos) (Gq to ti t) := by
 intro pins s σ H v u Q I r h
 rw [ha]
 refine wpAny_bind (wpAny_holding (thn (ho pins s σ H _ I h) fun ov s1 ⟨x, H1, I1, r1, q1⟩ => ?_))
 refine wpAny_bind (wpAny_holding (thn (hi pins s1 σ H1 _ I1 q1) fun iv s2 ⟨y, H2, I2, r2, q2⟩ => ?_))
 refine wpAny_bind (wpAny_standAt (wpAny_bind (wpAny_holding (thn (hs pins s2 σ H2 x y v ov iv u _ I2 r1 r2 r q2) fun _ s3 ⟨H3, I3, q3⟩ => ?_))))
 exact wpAny_release ⟨σ, H3, I3, q3⟩
def Bo (te : TE) (g : TG) : TS := fun D σ H => te σ H fun x H1 => g x σ H1 D.nx
theorem zW {tg e : Expr} {te : TE} {g : TG} (he : PE X e te) (hg : PG X tg g) (hs : swapsWithSole [tg] e pos.line X.env = pure false := by rfl) (hw : swappedStores [tg] e X.env = pure none := by rfl)
  (h1 : (assignEach [tg] X.env).map (·.2) = [assign tg X.env] := by rfl) : PS X (.Assign [tg] e pos) (Bo te g) := by
 intro pins s σ H D I h
 refine wpAny_Assign_stores (thn (he pins s σ H _ I h) fun v s1 ⟨x, H1, I1, r1, q1⟩ => ?_) hs hw
 rw [h1]
 exact thn (hg pins s1 σ H1 x v _ I1 r1 q1) fun _ s2 q => q
theorem aG {i : Nat} {x : Str} {e : Expr} {te : TE} {pos' : Pos} (hN : X.N.Nodup) (hi : X.N[i]? = some x) (hx : Loc X.env.scope x) (he : PE X e te) (hs : swapsWith e (some (.Name x pos')) pos.line X.env = pure false := by rfl) (hf : X.fn x = true ∨ X.env.scope.names.lookup x = some .local := by first | exact .inl rfl | exact .inr rfl | assumption) :
  PS X (.Assign [.Name x pos'] e pos) (Bo te (pG i)) := by
 intro pins s σ H D I h
 refine wpAny_Assign_Name (thn (he pins s σ H _ I h) fun v s1 ⟨y, H1, I1, r1, q1⟩ => ?_) hs
 exact lF I1 hN hi hx r1 (fun s2 I2 => ⟨_, H1, I2, q1⟩) hf
end
section
variable {X : Cx} {pos : Pos}
def DK (c : TT) (tb : TS) : TS := fun D σ H => ∃ W : Nat → St → Hp → Prop, (∃ m, W m σ H) ∧ ∀ m σ H, W m σ H →
 c σ H fun b H1 => if b = true then ∃ N : St → Hp → Prop, (∀ σ' H', N σ' H' → ∃ m', m' < m ∧ W m' σ' H') ∧ tb { D with nx := N, ct := N, bk := D.nx } σ H1 else D.nx σ H1
theorem il {c : Expr} {body : List Stmt} {tc : TT} {tb : TS} (hp : PassesOwn (model X.prog X.w) X.A X.env X.xe) (hc : PT X c tc) (hb : PSs X body tb) : PS X (.While c body [] pos) (DK tc tb) := by
 intro pins s σ H D I h
 obtain ⟨W, ⟨m0, w0⟩, turn⟩ := h
 refine wpAny_While (codeAny_whileLoop (fun n s' => ∃ σ' H', Inv X pins σ' H' s' ∧ W n σ' H') ?_ m0 ⟨σ, H, I, w0⟩)
 rintro n s1 ⟨σ1, H1, I1, w1⟩
 refine wpAny_passesOwn hp (thn (hc pins s1 σ1 H1 _ I1 (turn n σ1 H1 w1)) fun b s2 ⟨H2, I2, q2⟩ => ?_)
 cases b with
 | true =>
  obtain ⟨N, hN, q2⟩ := q2
  rw [if_pos rfl]
  refine wpAny_passesOwn hp (thn (hb pins s2 σ1 H2 _ I2 q2) fun f s3 q3 => ?_)
  cases f with
  | next =>
   obtain ⟨σ3, H3, I3, n3⟩ := q3
   obtain ⟨m', hm, w3⟩ := hN σ3 H3 n3
   exact ⟨m', hm, σ3, H3, I3, w3⟩
  | cont =>
   obtain ⟨σ3, H3, I3, n3⟩ := q3
   obtain ⟨m', hm, w3⟩ := hN σ3 H3 n3
   exact ⟨m', hm, σ3, H3, I3, w3⟩
  | brk => exact q3
  | ret v => exact q3
 | false =>
  rw [if_neg Bool.false_ne_true]
  exact wpAny_execs_nil ⟨σ1, H2, I2, q2⟩
end
structure It where
 go : Nat → Hp → Prop
 yld : Nat → Hp → V → Hp → Prop
 stop : Nat → Hp → Prop
def iQ (X : Cx) (pins : List (Addr × Obj)) (H : Hp) (b : Addr) : Prop :=
 H b = none ∧ b ≠ X.env.locals ∧ b ∉ X.fs ∧ (b ∈ X.ex ∨ X.s₀.heap.objs.size ≤ b) ∧ (∀ x c, X.env.cells.lookup x = some c → c ≠ b) ∧ ∀ p ∈ X.pn ++ pins, p.1 ≠ b
theorem Inv.fpOk {X : Cx} {pins : List (Addr × Obj)} {σ : St} {H H' : Hp} {s : Shared} {b : Addr} (I : Inv X pins σ H s) (hb : s.heap.objs.size ≤ b) (hn : H' b = none) : iQ X pins H' b := by
 refine ⟨hn, Nat.ne_of_gt (Nat.lt_of_lt_of_le I.lt hb), I.nofs hb, .inr (Nat.le_trans I.sz hb), fun x c e z => ?_, fun p hp z => ?_⟩
 ·obtain ⟨v, q⟩ := I.cell x c e
  exact absurd (Nat.lt_of_lt_of_le q.lt (by rw [z]; exact hb)) (Nat.lt_irrefl _)
 ·exact absurd (Nat.lt_of_lt_of_le (Heap.lt_size (I.pin p hp).1) (by rw [z]; exact hb)) (Nat.lt_irrefl _)
structure Turn (P : Program) (w : World) (K : PySem.W.Frag) (tg : Expr) (J : It) (fp : List Addr) (it : Addr) (tn : Nat → Heap → Prop) : Prop where
 mem : it ∈ fp
 obj : ∀ i h, tn i h → ∀ b ∈ fp, ∃ o, h.get? b = some o ∧ ∀ v, o.data ≠ .cell v
 keep : ∀ i h h', tn i h → (∀ b ∈ fp, ∀ o, h.get? b = some o → h'.get? b = some o) → tn i h'
 item : ∀ (X : Cx), X.prog = P → X.w = w → X.K = K → X.calm = true → ∀ (i : Nat) (pins : List (Addr × Obj)) (s : Shared) (σ : St) (H : Hp) (E : Value → Shared → Prop), Inv X pins σ H s → (∀ b ∈ fp, iQ X pins H b) → tn i s.heap → J.go i H →
  wpAny (model P w) X.A (pyNext (.ref it)) (fun r s1 => ∃ u, r = some u ∧
   wpAny (model P w) X.A (letOwnedTupleGo tg (.ref it) u) (fun _ s2 => ∃ x H', Inv X pins σ H' s2 ∧ RelV x u ∧ J.yld i H x H' ∧ tn (i + 1) s2.heap ∧ ∀ b ∈ fp, H' b = none) E s1) E s
 done : ∀ (X : Cx), X.prog = P → X.w = w → X.K = K → X.calm = true → ∀ (i : Nat) (pins : List (Addr × Obj)) (s : Shared) (σ : St) (H : Hp) (E : Value → Shared → Prop), Inv X pins σ H s → (∀ b ∈ fp, iQ X pins H b) → tn i s.heap → J.stop i H →
  wpAny (model P w) X.A (pyNext (.ref it)) (fun r s1 => r = none ∧ Inv X pins σ H s1) E s
 self : ∀ (A : Around) (i : Nat) (s : Shared) (Q : Value → Shared → Prop) (E : Value → Shared → Prop), tn i s.heap → Q (.ref it) s → wpAny (model P w) A (pyIter (.ref it)) Q E s
abbrev TI := St → Hp → (It → Hp → Prop) → Prop
def PIE (X : Cx) (pins : List (Addr × Obj)) (σ : St) (tg : Expr) (R : It → Hp → Prop) (itv : Value) (s2 : Shared) : Prop :=
 ∃ (it : Addr) (fp : List Addr) (tn : Nat → Heap → Prop) (J : It) (H' : Hp), itv = .ref it ∧ Inv X pins σ H' s2 ∧ Turn X.prog X.w X.K tg J fp it tn ∧ tn 0 s2.heap ∧ (∀ b ∈ fp, iQ X pins H' b) ∧ R J H'
def PI (X : Cx) (tg iter : Expr) (wi : TI) : Prop :=
 ∀ (pins : List (Addr × Obj)) (s : Shared) (σ : St) (H : Hp) (R : It → Hp → Prop), Inv X pins σ H s → wi σ H R →
  wpAny (model X.prog X.w) X.A (eval iter X.env) (fun v s1 => wpAny (model X.prog X.w) X.A (pyIter v) (PIE X pins σ tg R) X.xe s1) X.xe s
theorem xG {M : Model} {A : Around} {E : Value → Shared → Prop} {s : Shared} {tg : Expr} {it : Addr} {u : Value} {o : Obj} {n : String} {vs : Array Value} {Q : Unit → Shared → Prop} (ho : s.heap.get? it = some o) (hc : o.cls = .type n) (hd : o.data = .fields vs)
    (hn : ["enumerate", "zip", "dict_itemiterator", "dict_reverseitemiterator", "odict_iterator", "itertools.zip_longest", "itertools.pairwise"].contains n = false) (hQ : Q () s) : wpAny M A (letOwnedTupleGo tg (.ref it) u) Q E s := by
  unfold letOwnedTupleGo
  cases tg <;> first
    | exact wpAny_pure hQ
    | (cases u <;> first
        | exact wpAny_pure hQ
        | (refine wpAny_bind (wpAny_load ho ?_)
           rw [hc, hd]
           show wpAny M A (if (["enumerate", "zip", "dict_itemiterator", "dict_reverseitemiterator", "odict_iterator", "itertools.zip_longest", "itertools.pairwise"].contains n && vs[0]? == some (rawInt _)) = true then _ else _) Q E s
           rw [if_neg (by intro h; rw [hn, Bool.false_and] at h; cases h)]
           exact wpAny_pure hQ))
def Itl (K : PySem.W.Frag) (a : Addr) : It :=
 ⟨fun i H => ∃ xs x, SqL K H a xs ∧ xs[i]? = some x, fun i H x H' => H' = H ∧ ∀ xs, SqL K H a xs → xs[i]? = some x, fun i H => ∃ xs, SqL K H a xs ∧ xs.length ≤ i⟩
def Itr (lo : Int) (n : Nat) : It := ⟨fun i _ => i < n, fun i H x H' => H' = H ∧ x = .int (lo + i), fun i _ => n ≤ i⟩
theorem yz {P : Program} {w : World} {K : PySem.W.Frag} {tg : Expr} (a it : Addr) : Turn P w K tg (Itl K a) [it] it (fun i h => h.IsListIter it a i) where
 mem := by simp
 obj := fun i h st b hb => by
  have e : b = it := by simpa using hb
  subst e
  obtain ⟨o, e, c, d⟩ := st
  exact ⟨o, e, fun v z => by rw [d] at z; cases z⟩
 keep := fun i h h' st k => st.at fun o e => k it (by simp) o e
 item := by
  intro X hP hw hK hc i pins s σ H E I hf st hg
  subst hP hw hK
  obtain ⟨xs, x, hq, hx⟩ := hg
  obtain ⟨its, rv, p, hz⟩ := I.list hq
  obtain ⟨u, hu, ru⟩ := rv.get hx
  obtain ⟨f0, f1, f2, f3, f4, f5⟩ := hf it (by simp)
  refine wpAny_pyNext_list_item st p.isList (x := u) (by simpa using hu) fun h' st' sb => ?_
  have I1 : Inv X pins σ H { s with heap := h' } := I.turned (t' := s.toks) (fun b o hb e => (sb.2 b hb).trans e) f0 f1 f3 f4 f5
  obtain ⟨o, e, c, d⟩ := id st'
  exact ⟨u, rfl, xG (s := { s with heap := h' }) e c d (by decide) ⟨x, H, I1, ru, ⟨rfl, fun ys hy => by rw [I.list_inj hy hq]; exact hx⟩, st', fun b hb => (hf b hb).1⟩⟩
 done := by
  intro X hP hw hK hc i pins s σ H E I hf st hg
  subst hP hw hK
  obtain ⟨xs, hq, hx⟩ := hg
  obtain ⟨its, rv, p, hz⟩ := I.list hq
  obtain ⟨f0, f1, f2, f3, f4, f5⟩ := hf it (by simp)
  have hl := rv.length
  exact wpAny_pyNext_list_end (I.ok.hd hc) st p.isList (by simp; omega) fun h' eb => ⟨rfl, I.turned (t' := s.toks) (fun b o hb e => eb b o hb e) f0 f1 f3 f4 f5⟩
 self := fun _ _ _ _ _ st h => wpAny_pyIter_listiter st h
theorem wD {P : Program} {w : World} {K : PySem.W.Frag} {tg : Expr} (it : Addr) (lo : Int) (n : Nat) : Turn P w K tg (Itr lo n) [it] it (fun i h => IsRangeIter h it (lo + (i : Nat) * 1) ((n : Int) - (i : Nat)) 1) where
 mem := by simp
 obj := fun i h st b hb => by
  have e : b = it := by simpa using hb
  subst e
  exact ⟨_, st, fun v z => by
   have z' : Data.fields _ = Data.cell v := z
   cases z'⟩
 keep := fun i h h' st k => k it (by simp) _ st
 item := by
  intro X hP hw hK hc i pins s σ H E I hf st hg
  subst hP hw hK
  obtain ⟨f0, f1, f2, f3, f4, f5⟩ := hf it (by simp)
  have W := Walks.range (prog := X.prog) (w := X.w) (I.ok.hd hc) it lo 1 n
  refine W.item i s _ _ hg st fun v h' tk hv st' kk => ?_
  obtain ⟨t, rfl⟩ := hv
  have I1 : Inv X pins σ H { s with heap := h', toks := tk } := I.turned (fun b o hb e => kk b o (by simpa using hb) e) f0 f1 f3 f4 f5
  refine ⟨_, rfl, xG (s := { s with heap := h', toks := tk }) (n := "range_iterator") st' rfl rfl (by decide) ⟨.int (lo + i), H, I1, ⟨t, ?_⟩, ⟨rfl, rfl⟩, st', fun b hb => (hf b hb).1⟩⟩
  rw [Int.mul_one]
 done := by
  intro X hP hw hK hc i pins s σ H E I hf st hg
  subst hP hw hK
  obtain ⟨f0, f1, f2, f3, f4, f5⟩ := hf it (by simp)
  exact wpAny_pyNext_range_end (I.ok.hd hc) st (by have : n ≤ i := hg; omega) fun h' eb => ⟨rfl, I.turned (t' := s.toks) (fun b o hb e => eb b o hb e) f0 f1 f3 f4 f5⟩
 self := fun _ _ _ _ _ st h => wpAny_pyIter_rangeiter st h
end L2
namespace L2
open PySem PySem.Spec PyProof.Rows
section
variable {X : Cx} {tg : Expr}
def Fe (K : PySem.W.Frag) (tl : TE) : TI := fun σ H R => tl σ H fun x H1 => ∃ a, x = .ref a ∧ (∃ xs, SqL K H1 a xs) ∧ R (Itl K a) H1
theorem fJ {l : Expr} {tl : TE} (hl : PE X l tl) : PI X tg l (Fe X.K tl) := by
 intro pins s σ H R I h
 refine thn (hl pins s σ H _ I h) fun v s1 ⟨x, H1, I1, r1, q1⟩ => ?_
 obtain ⟨a, e, ⟨xs, hq⟩, q⟩ := q1
 subst e
 cases r1
 obtain ⟨its, rv, p, hz⟩ := I1.list hq
 refine wpAny_pyIter_list p.isList ?_
 refine ⟨s1.heap.objs.size, [s1.heap.objs.size], _, _, H1, rfl, I1.kept (t' := s1.toks) fun b o e => Heap.get?_push_of_some _ e, yz a _, ⟨_, Heap.get?_push_size _ rfl, rfl, rfl⟩, fun b hb => ?_, q⟩
 have e : b = s1.heap.objs.size := by simpa using hb
 subst e
 exact I1.fpOk (Nat.le_refl _) (I1.hok.fresh (Nat.le_refl _))
theorem Ax {pins : List (Addr × Obj)} {σ : St} {H : Hp} {s : Shared} {R : It → Hp → Prop} {E : Value → Shared → Prop} {lo hi : Int} {t u v : Tok} {tk : Nat} (I : Inv X pins σ H s) (h1 : -(2 ^ 62) ≤ lo) (h2 : lo < 2 ^ 62) (h3 : -(2 ^ 62) ≤ hi) (h4 : hi < 2 ^ 62)
  (q : R (Itr lo (hi - lo).toNat) H) : wpAny (model X.prog X.w) X.A (pyIter (.ref s.heap.objs.size)) (PIE X pins σ tg R) E { s with heap := s.heap.push { cls := .type "range", data := .fields #[.int lo t, .int hi u, .int 1 v] }, toks := tk } := by
 refine wpAny_pyIter_range (IsRange.new ..) (small_one h1 h2 h3 h4) ?_
 have I1 : Inv X pins σ H { s with heap := s.heap.push { cls := .type "range", data := .fields #[.int lo t, .int hi u, .int 1 v] }, toks := tk } := I.kept fun b o e => Heap.get?_push_of_some _ e
 refine ⟨(s.heap.push { cls := .type "range", data := .fields #[.int lo t, .int hi u, .int 1 v] }).objs.size, [(s.heap.push { cls := .type "range", data := .fields #[.int lo t, .int hi u, .int 1 v] }).objs.size], _, _, H, rfl,
  I1.kept (t' := tk) fun b o e => Heap.get?_push_of_some _ e, wD _ lo (hi - lo).toNat, ?_, fun b hb => ?_, q⟩
 ·have e1 : lo + ((0 : Nat) : Int) * 1 = lo := by simp
  have e2 : (((hi - lo).toNat : Nat) : Int) - ((0 : Nat) : Int) = Builtin.Range.rangeSize lo hi 1 := by rw [rangeSize_one]; split <;> omega
  show IsRangeIter _ _ (lo + ((0 : Nat) : Int) * 1) ((((hi - lo).toNat : Nat) : Int) - ((0 : Nat) : Int)) 1
  rw [e1, e2]
  exact Heap.get?_push_size _ rfl
 ·have e : b = (s.heap.push { cls := .type "range", data := .fields #[.int lo t, .int hi u, .int 1 v] }).objs.size := by simpa using hb
  subst e
  exact I1.fpOk (Nat.le_refl _) (I1.hok.fresh (Nat.le_refl _))
def Fp (ta : TA) : TI := fun σ H R => ta σ H fun vs H1 => ∃ j : Int, vs = [.int j] ∧ -(2 ^ 62) ≤ j ∧ j < 2 ^ 62 ∧ R (Itr 0 j.toNat) H1
theorem jP {a : Expr} {ta : TA} {p pos : Pos} (hg : Gl X "range") (hm : X.mg "range" = none) (ha : PA X [a] ta) (hs : starEach [a] X.env = [(false, eval a X.env)] := by rfl) : PI X tg (.Call (.Name "range" p) [a] [] pos) (Fp ta) := by
 intro pins s σ H R I h
 refine Call_ (dD I hg hm boot_range (PyProof.Rows.callWith_type1 (thn (ha pos pins s σ H _ I h) fun us s1 ⟨vs, H1, I1, r1, q1⟩ => ?_) hs rfl))
 obtain ⟨j, e, q1, q2, q⟩ := q1
 subst e
 cases r1 with
 | cons r rr =>
  cases rr
  obtain ⟨t, rfl⟩ := r
  exact call_range_1 (Ax I1 (by omega) (by omega) q1 q2 (by simpa using q))
def Gb (wi : TI) (g : TG) (tb : TS) : TS := fun D σ H => wi σ H fun J H1 => ∃ W : Nat → Nat → St → Hp → Prop, (∃ m, W 0 m σ H1) ∧ ∀ i m σ H, W i m σ H →
 (J.stop i H ∧ D.nx σ H) ∨ (J.go i H ∧ ∃ N : St → Hp → Prop, (∀ σ' H', N σ' H' → ∃ m', m' < m ∧ W (i + 1) m' σ' H') ∧ ∀ x H', J.yld i H x H' → g x σ H' fun σ2 H2 => tb { D with nx := N, ct := N, bk := D.nx } σ2 H2)
def nD (fp : List Addr) (h : Heap) : List (Addr × Obj) := fp.filterMap fun b => (h.get? b).map fun o => (b, o)
theorem dG {fp : List Addr} {h : Heap} {b : Addr} {o : Obj} (hb : b ∈ fp) (e : h.get? b = some o) : (b, o) ∈ nD fp h := List.mem_filterMap.mpr ⟨b, hb, by rw [e]; rfl⟩
theorem yD {fp : List Addr} {h : Heap} {p : Addr × Obj} (hp : p ∈ nD fp h) : p.1 ∈ fp ∧ h.get? p.1 = some p.2 := by
 obtain ⟨b, hb, e⟩ := List.mem_filterMap.mp hp
 cases q : h.get? b with
 | none => rw [q] at e; cases e
 | some o =>
  rw [q] at e
  have e' : (b, o) = p := Option.some.inj e
  subst e'
  exact ⟨hb, q⟩
theorem Inv.pinned {pins : List (Addr × Obj)} {σ : St} {H : Hp} {s : Shared} {fp : List Addr} (I : Inv X pins σ H s) (hf : ∀ b ∈ fp, iQ X pins H b) (ho : ∀ b ∈ fp, ∃ o, s.heap.get? b = some o ∧ ∀ v, o.data ≠ .cell v) : Inv X (pins ++ nD fp s.heap) σ H s :=
 I.pins_of fun p hp => (List.mem_append.mp hp).elim (fun z => I.pin p (List.mem_append_right _ z)) fun z => by
  obtain ⟨hb, e⟩ := yD z
  obtain ⟨f0, f1, f2, _⟩ := hf p.1 hb
  obtain ⟨o, e', d⟩ := ho p.1 hb
  rw [e] at e'; cases e'
  exact ⟨e, f0, f1, f2, d⟩
theorem Inv.unpinned {pins pl : List (Addr × Obj)} {σ : St} {H : Hp} {s : Shared} (I : Inv X (pins ++ pl) σ H s) : Inv X pins σ H s := I.pins_of fun p hp => I.pin p (List.mem_append_right _ (List.mem_append_left _ hp))
theorem cC {iter : Expr} {body : List Stmt} {wi : TI} {g : TG} {tb : TS} {pos : Pos} (hp : PassesOwn (model X.prog X.w) X.A X.env X.xe) (hc : X.calm = true) (hi : PI X tg iter wi) (hg : PG X tg g) (hb : PSs X body tb)
  (hs : ∀ x, foldedSetIterable iter X.env x = pure x := by intro _; rfl) : PS X (.For tg iter body [] pos) (Gb wi g tb) := by
 intro pins s σ H D I h
 refine wpAny_For (thn (hi pins s σ H _ I h) fun v s1 h1 => thn h1 fun itv s2 h2 => ?_) hs
 obtain ⟨it, fp, tn, J, H2, e, I2, T, st2, f2, W, ⟨m0, w0⟩, turn⟩ := h2
 subst e
 have stat : ∀ {H' : Hp}, (∀ b ∈ fp, H' b = none) → ∀ b ∈ fp, iQ X pins H' b := fun hn b hb => ⟨hn b hb, (f2 b hb).2⟩
 refine codeAny_forLoop_any (fun n s' => ∃ i σ' H', Inv X pins σ' H' s' ∧ tn i s'.heap ∧ (∀ b ∈ fp, H' b = none) ∧ W i n σ' H') ?_ m0 ⟨0, σ, H2, I2, st2, fun b hb => (f2 b hb).1, w0⟩
 rintro n s3 ⟨i, σ3, H3, I3, st3, fr3, w3⟩
 rcases turn i n σ3 H3 w3 with ⟨stop, qn⟩ | ⟨go, N, hN, step⟩
 ·refine wpAny_passesOwn hp (thn (T.done X rfl rfl rfl hc i pins s3 σ3 H3 X.xe I3 (stat fr3) st3 stop) fun r s4 ⟨hr, I4⟩ => ?_)
  subst hr
  exact wpAny_execs_nil ⟨σ3, H3, I4, qn⟩
 ·refine wpAny_passesOwn hp (thn (T.item X rfl rfl rfl hc i pins s3 σ3 H3 X.xe I3 (stat fr3) st3 go) fun r s4 ⟨u, hr, h4⟩ => ?_)
  subst hr
  refine wpAny_passesOwn hp (thn h4 fun _ s5 ⟨x, H5, I5, r5, y5, st5, fr5⟩ => ?_)
  have I5' := I5.pinned (stat fr5) (T.obj _ _ st5)
  refine wpAny_passesOwn hp (thn (hg _ s5 σ3 H5 x u _ I5' r5 (step x H5 y5)) fun _ s6 ⟨σ6, H6, I6, q6⟩ => ?_)
  refine wpAny_passesOwn hp (thn (hb _ s6 σ6 H6 _ I6 q6) fun f s7 q7 => ?_)
  have again : ∀ {σ7 : St} {H7 : Hp}, Inv X (pins ++ nD fp s5.heap) σ7 H7 s7 → N σ7 H7 → ∃ m, m < n ∧ ∃ i σ' H', Inv X pins σ' H' s7 ∧ tn i s7.heap ∧ (∀ b ∈ fp, H' b = none) ∧ W i m σ' H' := fun {σ7 H7} I7 n7 => by
   obtain ⟨m', hm, w7⟩ := hN σ7 H7 n7
   refine ⟨m', hm, i + 1, σ7, H7, I7.unpinned, T.keep _ _ _ st5 fun b hb o e => (I7.pin (b, o) (List.mem_append_right _ (List.mem_append_right _ (dG hb e)))).1, fun b hb => ?_, w7⟩
   obtain ⟨o, e, d⟩ := T.obj _ _ st5 b hb
   exact (I7.pin (b, o) (List.mem_append_right _ (List.mem_append_right _ (dG hb e)))).2.1
  cases f with
  | next => obtain ⟨σ7, H7, I7, n7⟩ := q7; exact again I7 n7
  | cont => obtain ⟨σ7, H7, I7, n7⟩ := q7; exact again I7 n7
  | brk => obtain ⟨σ7, H7, I7, q7⟩ := q7; exact ⟨σ7, H7, I7.unpinned, q7⟩
  | ret v => obtain ⟨x7, σ7, H7, I7, r7, q7⟩ := q7; exact ⟨x7, σ7, H7, I7.unpinned, r7, q7⟩
end
theorem cL {K : PySem.W.Frag} {a : Addr} {xs : List V} {g : TG} {tb : TS} {D : Ends} {σ : St} {H : Hp} (Pv : Nat → St → Hp → Prop) (h0 : Pv 0 σ H) (hl : ∀ i σ H, i ≤ xs.length → Pv i σ H → SqL K H a xs)
  (hs : ∀ i x σ H, xs[i]? = some x → Pv i σ H → g x σ H fun σ2 H2 => tb { D with nx := Pv (i + 1), ct := Pv (i + 1), bk := D.nx } σ2 H2) (hd : ∀ σ H, Pv xs.length σ H → D.nx σ H) :
  ∃ W : Nat → Nat → St → Hp → Prop, (∃ m, W 0 m σ H) ∧ ∀ i m σ H, W i m σ H →
   ((Itl K a).stop i H ∧ D.nx σ H) ∨ ((Itl K a).go i H ∧ ∃ N : St → Hp → Prop, (∀ σ' H', N σ' H' → ∃ m', m' < m ∧ W (i + 1) m' σ' H') ∧ ∀ x H', (Itl K a).yld i H x H' → g x σ H' fun σ2 H2 => tb { D with nx := N, ct := N, bk := D.nx } σ2 H2) := by
 refine ⟨fun i m σ H => m = xs.length - i ∧ i ≤ xs.length ∧ Pv i σ H, ⟨xs.length, by simp, Nat.zero_le _, h0⟩, ?_⟩
 rintro i m σ H ⟨rfl, hi, p⟩
 have q := hl i σ H hi p
 by_cases hlt : i < xs.length
 ·refine .inr ⟨⟨xs, xs[i], q, by simp [hlt]⟩, Pv (i + 1), fun σ' H' p' => ⟨xs.length - (i + 1), by omega, rfl, hlt, p'⟩, fun x H' y => ?_⟩
  obtain ⟨e, y⟩ := y
  subst e
  exact hs i x σ _ (y xs q) p
 ·have e : i = xs.length := by omega
  subst e
  exact .inl ⟨⟨xs, q, Nat.le_refl _⟩, hd σ H p⟩
theorem rO {lo : Int} {n : Nat} {g : TG} {tb : TS} {D : Ends} {σ : St} {H : Hp} (Pv : Nat → St → Hp → Prop) (h0 : Pv 0 σ H)
  (hs : ∀ i σ H, i < n → Pv i σ H → g (.int (lo + i)) σ H fun σ2 H2 => tb { D with nx := Pv (i + 1), ct := Pv (i + 1), bk := D.nx } σ2 H2) (hd : ∀ σ H, Pv n σ H → D.nx σ H) :
  ∃ W : Nat → Nat → St → Hp → Prop, (∃ m, W 0 m σ H) ∧ ∀ i m σ H, W i m σ H →
   ((Itr lo n).stop i H ∧ D.nx σ H) ∨ ((Itr lo n).go i H ∧ ∃ N : St → Hp → Prop, (∀ σ' H', N σ' H' → ∃ m', m' < m ∧ W (i + 1) m' σ' H') ∧ ∀ x H', (Itr lo n).yld i H x H' → g x σ H' fun σ2 H2 => tb { D with nx := N, ct := N, bk := D.nx } σ2 H2) := by
 refine ⟨fun i m σ H => m = n - i ∧ i ≤ n ∧ Pv i σ H, ⟨n, by simp, Nat.zero_le _, h0⟩, ?_⟩
 rintro i m σ H ⟨rfl, hi, p⟩
 by_cases hlt : i < n
 ·refine .inr ⟨hlt, Pv (i + 1), fun σ' H' p' => ⟨n - (i + 1), by omega, rfl, hlt, p'⟩, fun x H' y => ?_⟩
  obtain ⟨e, y⟩ := y
  subst e y
  exact hs i σ _ hlt p
 ·have e : i = n := by omega
  subst e
  exact .inl ⟨Nat.le_refl _, hd σ H p⟩
end L2
namespace L2
open PySem PySem.Spec PyProof.Rows
abbrev R2 := V → V → Hp → VK → Prop
def OpR (X : Cx) (f : Value → Value → Sem Value) (r : R2) : Prop :=
 ∀ (pins : List (Addr × Obj)) (s : Shared) (σ : St) (H : Hp) (x y : V) (v u : Value) (Q : VK), Inv X pins σ H s → RelV x v → RelV y u → r x y H Q →
  wpAny (model X.prog X.w) X.A (f v u) (EP X pins σ Q) X.xe s
def UnR (X : Cx) (f : Value → Sem Value) (r : V → Hp → VK → Prop) : Prop :=
 ∀ (pins : List (Addr × Obj)) (s : Shared) (σ : St) (H : Hp) (x : V) (v : Value) (Q : VK), Inv X pins σ H s → RelV x v → r x H Q →
  wpAny (model X.prog X.w) X.A (f v) (EP X pins σ Q) X.xe s
def gB (X : Cx) (f : Value) (r : List V → Hp → VK → Prop) : Prop :=
 ∀ (pins : List (Addr × Obj)) (s : Shared) (σ : St) (H : Hp) (xs : List V) (us : List Value) (Q : VK), Inv X pins σ H s → Vals xs us → r xs H Q →
  wpAny (model X.prog X.w) X.A (call f us) (EP X pins σ Q) X.xe s
def tOp (r : R2) (ta tb : TE) : TE := fun σ H Q => ta σ H fun x H1 => tb σ H1 fun y H2 => r x y H2 Q
def tUn (r : V → Hp → VK → Prop) (ta : TE) : TE := fun σ H Q => ta σ H fun x H1 => r x H1 Q
def rI (C : Int → Int → Prop) (g : Int → Int → V) : R2 := fun x y H Q => ∃ i j, x = .int i ∧ y = .int j ∧ C i j ∧ Q (g i j) H
def rI0 (g : Int → Int → V) : R2 := fun x y H Q => ∃ i j, x = .int i ∧ y = .int j ∧ Q (g i j) H
def rU (g : Int → V) : V → Hp → VK → Prop := fun x H Q => ∃ i, x = .int i ∧ Q (g i) H
section
variable {X : Cx} {a b c : Expr} {ta tb tc : TE} {pos : Pos}
theorem Dh (ha : PE X a ta) (hb : PE X b tb) {pins : List (Addr × Obj)} {s : Shared} {σ : St} {H : Hp} {R : V → V → Hp → Prop} (I : Inv X pins σ H s)
  (h : ta σ H fun x H1 => tb σ H1 fun y H2 => R x y H2) {Q : Value → Shared → Prop} {f : Value → Value → Sem Value}
  (hf : ∀ v u s2 x y H2, Inv X pins σ H2 s2 → RelV x v → RelV y u → R x y H2 → wpAny (model X.prog X.w) X.A (f v u) Q X.xe s2) :
  wpAny (model X.prog X.w) X.A (eval a X.env) (fun v s₁ => wpAny (model X.prog X.w) X.A (eval b X.env) (fun u s₂ => wpAny (model X.prog X.w) X.A (f v u) Q X.xe s₂) X.xe s₁) X.xe s := by
 refine thn (ha pins s σ H _ I h) fun v s1 ⟨x, H1, I1, r1, q1⟩ => ?_
 refine thn (hb pins s1 σ H1 _ I1 q1) fun u s2 ⟨y, H2, I2, r2, q2⟩ => ?_
 exact hf v u s2 x y H2 I2 r1 r2 q2
theorem aD {op : Operator} {r : R2} (ho : OpR X (binaryOp op) r) (ha : PE X a ta) (hb : PE X b tb) : PE X (.BinOp a op b pos) (tOp r ta tb) := by
 intro pins s σ H Q I h
 exact wpAny_BinOp (Dh ha hb I h fun v u s2 x y H2 I2 rx ry q => ho pins s2 σ H2 x y v u Q I2 rx ry q)
theorem my {op : UnaryOp} {r : V → Hp → VK → Prop} (ho : UnR X (unaryOp op) r) (ha : PE X a ta) : PE X (.UnaryOp op a pos) (tUn r ta) := by
 intro pins s σ H Q I h
 exact UnaryOp_ (thn (ha pins s σ H _ I h) fun v s1 ⟨x, H1, I1, r1, q1⟩ => ho pins s1 σ H1 x v Q I1 r1 q1)
theorem opI {f : Value → Value → Sem Value} {C : Int → Int → Prop} {g : Int → Int → Int}
  (rule : ∀ (i j : Int) (t u : Tok) (s : Shared) (Q : Value → Shared → Prop) (E : Value → Shared → Prop), C i j → Q (.int (g i j) s.toks) { s with toks := s.toks + 1 } → wpAny (model X.prog X.w) X.A (f (.int i t) (.int j u)) Q E s) :
  OpR X f (rI C fun i j => .int (g i j)) := by
 intro pins s σ H x y v u Q I rx ry h
 obtain ⟨i, j, rfl, rfl, hc, q⟩ := h
 obtain ⟨t, rfl⟩ := rx
 obtain ⟨t', rfl⟩ := ry
 exact rule i j t t' s _ _ hc ⟨.int (g i j), H, I.tok _, ⟨_, rfl⟩, q⟩
theorem Di {f : Value → Value → Sem Value} {g : Int → Int → Int}
  (rule : ∀ (i j : Int) (t u : Tok) (s : Shared) (Q : Value → Shared → Prop) (E : Value → Shared → Prop), Q (.int (g i j) s.toks) { s with toks := s.toks + 1 } → wpAny (model X.prog X.w) X.A (f (.int i t) (.int j u)) Q E s) :
  OpR X f (rI0 fun i j => .int (g i j)) := by
 intro pins s σ H x y v u Q I rx ry h
 obtain ⟨i, j, rfl, rfl, q⟩ := h
 obtain ⟨t, rfl⟩ := rx
 obtain ⟨t', rfl⟩ := ry
 exact rule i j t t' s _ _ ⟨.int (g i j), H, I.tok _, ⟨_, rfl⟩, q⟩
theorem BJ {f : Value → Value → Sem Value} {g : Int → Int → Bool}
  (rule : ∀ (i j : Int) (t u : Tok) (s : Shared) (Q : Value → Shared → Prop) (E : Value → Shared → Prop), Q (.bool (g i j)) s → wpAny (model X.prog X.w) X.A (f (.int i t) (.int j u)) Q E s) :
  OpR X f (rI0 fun i j => .bl (g i j)) := by
 intro pins s σ H x y v u Q I rx ry h
 obtain ⟨i, j, rfl, rfl, q⟩ := h
 obtain ⟨t, rfl⟩ := rx
 obtain ⟨t', rfl⟩ := ry
 exact rule i j t t' s _ _ ⟨.bl (g i j), H, I, rfl, q⟩
def Gs (i j : Int) : Prop := 0 < j ∧ j < 1073741824
def Gh (i j : Int) : Prop := 0 ≤ j ∧ j ≤ 1000000 ∧ i.natAbs < 2 ^ 64
def Er (i j : Int) : Prop := (-(2 ^ 64) < i ∧ i < 2 ^ 64) ∨ (-(2 ^ 64) < j ∧ j < 2 ^ 64)
theorem Er.ok {i j : Int} (h : Er i j) : IntMulOk i j := by
 rcases h with ⟨h1, h2⟩ | ⟨h1, h2⟩
 ·exact .of_left (intBits_le_64 h1 h2)
 ·exact .of_right (intBits_le_64 h1 h2)
theorem w6 (k : Nat) : (0 : Int) ≤ 2 ^ k := by
 rw [two_pow_cast]
 exact Int.natCast_nonneg _
theorem bF : OpR X (binaryOp .Add) (rI0 fun i j => .int (i + j)) := Di fun _ _ _ _ _ _ _ q => add_int q
theorem bG : OpR X (binaryOp .Sub) (rI0 fun i j => .int (i - j)) := Di fun _ _ _ _ _ _ _ q => sub_int q
theorem cI : OpR X (binaryOp .Mult) (rI Er fun i j => .int (i * j)) := opI fun _ _ _ _ _ _ _ hc q => mul_int q hc.ok
theorem bM : OpR X (binaryOp .FloorDiv) (rI Gs fun i j => .int (i / j)) := opI fun i j _ _ _ _ _ hc q => by
 have h1 : (0 : Int) < j := hc.1
 have h2 : j < 1073741824 := hc.2
 exact floordiv_int (by omega) (by rw [Int.fdiv_eq_ediv_of_nonneg i (by omega)]; exact q) (.inl (PyProof.noPylong_small (by omega)))
theorem bQ : OpR X (binaryOp .Mod) (rI (fun _ j => 0 < j) fun i j => .int (i % j)) := opI fun i j _ _ _ _ _ hc q => by
 have h1 : (0 : Int) < j := hc
 exact mod_int' (by omega) (by rw [Int.fmod_eq_emod_of_nonneg i (by omega)]; exact q)
theorem Ea : OpR X (binaryOp .Pow) (rI Gh fun i j => .int (i ^ j.toNat)) := opI fun _ _ _ _ _ _ _ hc q => pow_int_small hc.1 hc.2.1 hc.2.2 q
theorem DR : OpR X (binaryOp .RShift) (rI (fun _ j => 0 ≤ j) fun i j => .int (i / 2 ^ j.toNat)) := opI fun i j _ _ _ _ _ hc q =>
 rshift_int hc (by rw [Int.fdiv_eq_ediv_of_nonneg i (w6 _)]; exact q)
theorem Ek : OpR X (binaryOp .BitAnd) (rI0 fun i j => .int (Builtin.bitAnd i j)) := Di fun _ _ _ _ _ _ _ q => and_int q
theorem unI {f : Value → Sem Value} {g : Int → Int}
  (rule : ∀ (i : Int) (t : Tok) (s : Shared) (Q : Value → Shared → Prop) (E : Value → Shared → Prop), Q (.int (g i) s.toks) { s with toks := s.toks + 1 } → wpAny (model X.prog X.w) X.A (f (.int i t)) Q E s) :
  UnR X f (rU fun i => .int (g i)) := by
 intro pins s σ H x v Q I rx h
 obtain ⟨i, rfl, q⟩ := h
 obtain ⟨t, rfl⟩ := rx
 exact rule i t s _ _ ⟨.int (g i), H, I.tok _, ⟨_, rfl⟩, q⟩
theorem iH : UnR X (unaryOp .USub) (rU fun i => .int (-i)) := unI fun _ _ _ _ _ q => neg_int q
end
def Fd : V → V → Bool
 | .non, .non => true | .non, .int _ => true | .int _, .non => true | .non, .bl _ => true | .bl _, .non => true | .non, .str _ => true | .str _, .non => true
 | .int _, .int _ => true | .bl _, .bl _ => true | .str _, .str _ => true | .byt _, .byt _ => true
 | .int _, .str _ => true | .str _, .int _ => true | .bl _, .str _ => true | .str _, .bl _ => true
 | _, _ => false
def rEq : R2 := fun x y H Q => Fd x y = true ∧ Q (.bl (decide (x = y))) H
def rNe : R2 := fun x y H Q => Fd x y = true ∧ Q (.bl (!decide (x = y))) H
theorem xZ {i j : Int} : decide (V.int i = V.int j) = (i == j) := by
 rw [Bool.eq_iff_iff]
 simp
theorem Ae {i j : Bool} : decide (V.bl i = V.bl j) = (i == j) := by
 rw [Bool.eq_iff_iff]
 simp
theorem xu {i j : Str} : decide (V.str i = V.str j) = (i == j) := by
 rw [Bool.eq_iff_iff]
 simp
theorem xJ {i j : Array UInt8} : decide (V.byt i = V.byt j) = (i.toList == j.toList) := by
 rw [Bool.eq_iff_iff]
 cases i
 cases j
 simp
section
variable {X : Cx} {a b c : Expr} {ta tb tc : TE} {pos : Pos}
theorem bB {pins : List (Addr × Obj)} {σ : St} {H : Hp} {s : Shared} {Q : VK} {k k' : Bool} (I : Inv X pins σ H s) (q : Q (.bl k) H) (e : k = k') : EP X pins σ Q (.bool k') s := by
 subst e
 exact ⟨.bl k, H, I, rfl, q⟩
theorem fP : OpR X (compareOp .Eq) rEq := by
 intro pins s σ H x y v u Q I rx ry h
 obtain ⟨hs, q⟩ := h
 cases x with
 | non =>
  cases rx
  cases y with
  | non => cases ry; exact PySem.EqNone.eq_none_none (bB I q (by simp))
  | bl j => cases ry; exact PySem.EqNone.eq_none_bool (bB I q (by simp))
  | int j => obtain ⟨t', rfl⟩ := ry; exact PySem.EqNone.eq_none_int (bB I q (by simp))
  | str j => obtain ⟨t', rfl⟩ := ry; exact PySem.EqNone.eq_none_str (bB I q (by simp))
  | _ => exact absurd (show false = true from hs) Bool.false_ne_true
 | bl i =>
  cases rx
  cases y with
  | non => cases ry; exact PySem.EqNone.eq_bool_none (bB I q (by simp))
  | bl j => cases ry; exact eq_bool (bB I q Ae)
  | str j => obtain ⟨t', rfl⟩ := ry; exact PySem.EqMixed.eq_bool_str (bB I q (by simp))
  | _ => exact absurd (show false = true from hs) Bool.false_ne_true
 | int i =>
  obtain ⟨t, rfl⟩ := rx
  cases y with
  | non => cases ry; exact PySem.EqNone.eq_int_none (bB I q (by simp))
  | int j => obtain ⟨t', rfl⟩ := ry; exact eq_int (bB I q xZ)
  | str j => obtain ⟨t', rfl⟩ := ry; exact PySem.EqMixed.eq_int_str (bB I q (by simp))
  | _ => exact absurd (show false = true from hs) Bool.false_ne_true
 | str i =>
  obtain ⟨t, rfl⟩ := rx
  cases y with
  | non => cases ry; exact PySem.EqNone.eq_str_none (bB I q (by simp))
  | bl j => cases ry; exact PySem.EqMixed.eq_str_bool (bB I q (by simp))
  | int j => obtain ⟨t', rfl⟩ := ry; exact PySem.EqMixed.eq_str_int (bB I q (by simp))
  | str j => obtain ⟨t', rfl⟩ := ry; exact eq_str (bB I q xu)
  | _ => exact absurd (show false = true from hs) Bool.false_ne_true
 | byt i =>
  obtain ⟨t, rfl⟩ := rx
  cases y with
  | byt j => obtain ⟨t', rfl⟩ := ry; exact PySem.W.eq_bytes (bB I q xJ)
  | _ => exact absurd (show false = true from hs) Bool.false_ne_true
 | _ => cases y <;> exact absurd (show false = true from hs) Bool.false_ne_true
theorem xX : OpR X (compareOp .NotEq) rNe := by
 intro pins s σ H x y v u Q I rx ry h
 obtain ⟨hs, q⟩ := h
 cases x with
 | non =>
  cases rx
  cases y with
  | non => cases ry; exact PySem.EqNone.ne_none_none (bB I q (by simp))
  | bl j => cases ry; exact PySem.EqNone.ne_none_bool (bB I q (by simp))
  | int j => obtain ⟨t', rfl⟩ := ry; exact PySem.EqNone.ne_none_int (bB I q (by simp))
  | str j => obtain ⟨t', rfl⟩ := ry; exact PySem.EqNone.ne_none_str (bB I q (by simp))
  | _ => exact absurd (show false = true from hs) Bool.false_ne_true
 | bl i =>
  cases rx
  cases y with
  | non => cases ry; exact PySem.EqNone.ne_bool_none (bB I q (by simp))
  | bl j => cases ry; exact ne_bool (bB I q (congrArg not Ae))
  | str j => obtain ⟨t', rfl⟩ := ry; exact PySem.EqMixed.ne_bool_str (bB I q (by simp))
  | _ => exact absurd (show false = true from hs) Bool.false_ne_true
 | int i =>
  obtain ⟨t, rfl⟩ := rx
  cases y with
  | non => cases ry; exact PySem.EqNone.ne_int_none (bB I q (by simp))
  | int j => obtain ⟨t', rfl⟩ := ry; exact ne_int (bB I q (congrArg not xZ))
  | str j => obtain ⟨t', rfl⟩ := ry; exact PySem.EqMixed.ne_int_str (bB I q (by simp))
  | _ => exact absurd (show false = true from hs) Bool.false_ne_true
 | str i =>
  obtain ⟨t, rfl⟩ := rx
  cases y with
  | non => cases ry; exact PySem.EqNone.ne_str_none (bB I q (by simp))
  | bl j => cases ry; exact PySem.EqMixed.ne_str_bool (bB I q (by simp))
  | int j => obtain ⟨t', rfl⟩ := ry; exact PySem.EqMixed.ne_str_int (bB I q (by simp))
  | str j => obtain ⟨t', rfl⟩ := ry; exact ne_str (bB I q (congrArg not xu))
  | _ => exact absurd (show false = true from hs) Bool.false_ne_true
 | byt i =>
  obtain ⟨t, rfl⟩ := rx
  cases y with
  | byt j => obtain ⟨t', rfl⟩ := ry; exact PySem.W.ne_bytes (bB I q (congrArg not xJ))
  | _ => exact absurd (show false = true from hs) Bool.false_ne_true
 | _ => cases y <;> exact absurd (show false = true from hs) Bool.false_ne_true
theorem jd : OpR X (compareOp .Lt) (rI0 fun i j => .bl (decide (i < j))) := BJ fun _ _ _ _ _ _ _ q => lt_int q
theorem jc : OpR X (compareOp .LtE) (rI0 fun i j => .bl (decide (i ≤ j))) := BJ fun _ _ _ _ _ _ _ q => le_int q
theorem ig : OpR X (compareOp .Gt) (rI0 fun i j => .bl (decide (j < i))) := BJ fun _ _ _ _ _ _ _ q => gt_int q
theorem vI : OpR X (compareOp .GtE) (rI0 fun i j => .bl (decide (j ≤ i))) := BJ fun _ _ _ _ _ _ _ q => ge_int q
theorem aN (b : Expr) {op : CmpOp} (h : op ≠ .In := by decide) (h2 : op ≠ .NotIn := by decide) : behindInMarks op b = false := by
 have e1 : (op == CmpOp.In) = false := by cases op <;> first | rfl | exact absurd rfl h
 have e2 : (op == CmpOp.NotIn) = false := by cases op <;> first | rfl | exact absurd rfl h2
 cases b <;> simp [behindInMarks, e1, e2]
theorem o5 {op : CmpOp} {r : R2} (ho : OpR X (compareOp op) r) (ha : PE X a ta) (hb : PE X b tb) (hm : behindInMarks op b = false) : PE X (.Compare a [op] [b] pos) (tOp r ta tb) := by
 intro pins s σ H Q I h
 exact wpAny_Compare1 (Dh ha hb I h fun v u s2 x y H2 I2 rx ry q => ho pins s2 σ H2 x y v u Q I2 rx ry q) hm
def z7 (t : TE) : TT := fun σ H Q => t σ H fun x H' => ∃ k, x = .bl k ∧ Q k H'
theorem aL {op : CmpOp} {r : R2} (ho : OpR X (compareOp op) r) (ha : PE X a ta) (hb : PE X b tb) (hm : behindInMarks op b = false) : PT X (.Compare a [op] [b] pos) (z7 (tOp r ta tb)) := by
 intro pins s σ H Q I h
 refine wpAny_isTrue_Compare1 (thn (ha pins s σ H _ I h) fun v s1 ⟨x, H1, I1, r1, q1⟩ => thn (hb pins s1 σ H1 _ I1 q1) fun u s2 ⟨y, H2, I2, r2, q2⟩ =>
  thn (ho pins s2 σ H2 x y v u _ I2 r1 r2 q2) fun c s3 ⟨z, H3, I3, r3, k, e, q3⟩ => ?_) hm
 subst e
 cases r3
 exact wpAny_truthy_bool ⟨H3, I3, q3⟩
def De (r r' : R2) (ta tb tc : TE) : TE := fun σ H Q => ta σ H fun x H1 => tb σ H1 fun y H2 => r x y H2 fun z H3 => ∃ k, z = .bl k ∧
 (if k = true then tc σ H3 fun w' H4 => r' y w' H4 Q else Q (.bl false) H3)
theorem uM {op op' : CmpOp} {r r' : R2} (ho : OpR X (compareOp op) r) (ho' : OpR X (compareOp op') r') (ha : PE X a ta) (hb : PE X b tb) (hc : PE X c tc)
  (hm : lastMarks [op, op'] [b, c] = false := by with_unfolding_all rfl) : PT X (.Compare a [op, op'] [b, c] pos) (z7 (De r r' ta tb tc)) := by
 intro pins s σ H Q I h
 refine isTrue_chain (thn (ha pins s σ H _ I h) fun v s1 ⟨x, H1, I1, r1, q1⟩ => test_link (thn (hb pins s1 σ H1 _ I1 q1) fun u s2 ⟨y, H2, I2, r2, q2⟩ =>
  thn (ho pins s2 σ H2 x y v u _ I2 r1 r2 q2) fun d s3 ⟨z, H3, I3, r3, k, e, q3⟩ => ?_)) hm
 subst e
 cases r3
 refine wpAny_truthy_bool ?_
 cases k with
 | false =>
  obtain ⟨k', e', q'⟩ := q3
  cases e'
  exact ite_ff ⟨H3, I3, q'⟩
 | true =>
  refine ite_tt (test_last (thn (hc pins s3 σ H3 _ I3 q3) fun w' s4 ⟨z', H4, I4, r4, q4⟩ => thn (ho' pins s4 σ H4 y z' u w' _ I4 r2 r4 q4) fun d' s5 ⟨z2, H5, I5, r5, k2, e2, q5⟩ => ?_))
  subst e2
  cases r5
  exact wpAny_truthy_bool ⟨H5, I5, q5⟩
theorem tV : (sizeLine : Nat) < 2 ^ 63 := by rw [sizeLine_eq]; decide
theorem vals1 {x : V} {us : List Value} (r : Vals [x] us) : ∃ u, us = [u] ∧ RelV x u := by
 cases r with
 | cons r1 r2 => cases r2; exact ⟨_, rfl, r1⟩
theorem vals2 {x y : V} {us : List Value} (r : Vals [x, y] us) : ∃ u w', us = [u, w'] ∧ RelV x u ∧ RelV y w' := by
 cases r with
 | cons r1 r2 =>
  cases r2 with
  | cons r3 r4 => cases r4; exact ⟨_, _, rfl, r1, r3⟩
theorem yU (hc : X.calm = true) : gB X (.builtin "max") (fun xs H Q => ∃ i j, xs = [.int i, .int j] ∧ Q (.int (if j > i then j else i)) H) := by
 intro pins s σ H xs us Q I r h
 obtain ⟨i, j, rfl, q⟩ := h
 obtain ⟨u, w', rfl, ⟨t, rfl⟩, ⟨t', rfl⟩⟩ := vals2 r
 refine max_two_ints (I.ok.hd hc) fun h' tk k => ⟨_, H, I.kept k, ?_, q⟩
 by_cases hj : j > i
 ·rw [if_pos hj, if_pos hj]; exact ⟨_, rfl⟩
 ·rw [if_neg hj, if_neg hj]; exact ⟨_, rfl⟩
theorem rG (hc : X.calm = true) : gB X (.builtin "min") (fun xs H Q => ∃ i j, xs = [.int i, .int j] ∧ Q (.int (if j < i then j else i)) H) := by
 intro pins s σ H xs us Q I r h
 obtain ⟨i, j, rfl, q⟩ := h
 obtain ⟨u, w', rfl, ⟨t, rfl⟩, ⟨t', rfl⟩⟩ := vals2 r
 refine min_two_ints (I.ok.hd hc) fun h' tk k => ⟨_, H, I.kept k, ?_, q⟩
 by_cases hj : j < i
 ·rw [if_pos hj, if_pos hj]; exact ⟨_, rfl⟩
 ·rw [if_neg hj, if_neg hj]; exact ⟨_, rfl⟩
end
end L2
namespace L2
open PySem PySem.Spec PyProof.Rows
structure v6 (h : Heap) (x dx C : Addr) (mA : Str → Option Value) : Prop where
 obj : h.get? x = some (PySem.W.instObj C dx)
 ns : h.Ns1 dx mA
 ne : dx ≠ x
theorem yj {h : Heap} {dx : Addr} {mA : Str → Option Value} (n : h.Ns1 dx mA) : ∃ od, h.get? dx = some od ∧ ∀ name, PySem.W.lookIn name od = some (mA name) := by
 obtain ⟨o, es, ep, ho, hd, hk, _, hm⟩ := n
 refine ⟨o, ho, fun name => ?_⟩
 have e := hm name
 unfold nsFind findBy at e
 rw [← Array.find?_toList] at e
 unfold PySem.W.lookIn
 rw [hd]
 dsimp only
 split
 ·rename_i y q
  rw [q] at e
  exact congrArg some e
 ·rename_i q
  rw [q] at e
  have a : es.toList.any (·.refKey) = false := by
   rw [List.any_eq_false]
   intro y hy
   obtain ⟨z, t, hkey⟩ := hk y (Array.mem_toList_iff.mp hy)
   simp [DictEntry.refKey, hkey]
  have a' : ¬ es.toList.any (·.refKey) = true := by rw [a]; exact Bool.false_ne_true
  rw [if_neg a']
  exact congrArg some e
theorem v6.look {h : Heap} {x dx C : Addr} {mA : Str → Option Value} (I : v6 h x dx C mA) : ∃ od, PySem.W.InstAt h x (PySem.W.instObj C dx) C (some od) ∧ ∀ name, PySem.W.lookIn name od = some (mA name) :=
 let ⟨od, ho, hl⟩ := yj I.ns
 ⟨od, ⟨I.obj, rfl, rfl, ho⟩, hl⟩
section
variable {prog : Program} {w : World} {A : Around} {E : Value → Shared → Prop} {s : Shared} {K : PySem.W.Frag} {x dx C f : Addr} {mA : Str → Option Value} {name : Str} {v : Value}
theorem Bp {expr : Bool} {Q : Value → Shared → Prop} (X : K.In s.heap) (I : v6 s.heap x dx C mA) (hg : PySem.W.plainGet K C name = true) (hh : PySem.W.hasDictIn K C = true)
  (ha : PySem.W.findIn K (.ref C) name = some none) (hv : mA name = some v) (hv' : PySem.W.handedIn v = true) (h : Q v { s with toks := s.toks + 1 }) :
  wpAny (model prog w) A (getAttr (.ref x) name expr) Q E s := by
 obtain ⟨od, J, hl⟩ := I.look
 exact PySem.W.get_value X J (PySem.W.plainGet_of hg).1 (PySem.W.findObj_own hh ha rfl (by rw [hl, hv])) hv' h
theorem zP {pl : Sem Bool} {Q : Value × List Value → Shared → Prop} (X : K.In s.heap) (I : v6 s.heap x dx C mA) (hg : PySem.W.plainGet K C name = true)
  (hf : PySem.W.findIn K (.ref C) name = some (some (.ref f))) (ht : PySem.W.isFn K (.ref f) = true) (hv : mA name = none) (h : Q (.ref f, [.ref x]) s) :
  wpAny (model prog w) A (getMethod (.ref x) name pl) Q E s := by
 obtain ⟨od, J, hl⟩ := I.look
 exact PySem.W.method_fn X J (PySem.W.plainGet_of hg).1 (PySem.W.plainGet_of hg).2 hf (beq_iff_eq.mp ht) (by show (PySem.W.lookIn name od).map (·.isSome) = some false; rw [hl, hv]; rfl) h
theorem BZ {ns : List Str} {Q : Unit → Shared → Prop} (X : K.In s.heap) (I : v6 s.heap x dx C mA)
  (hs : PySem.W.findIn K (.ref C) "__setattr__" = some (some (.builtin "object.__setattr__"))) (hp : PySem.W.plainOver K C = true) (ht : PySem.W.takerIn K C name = some none) (hh : PySem.W.hasDictIn K C = true)
  (hw : PySem.Within mA ns) (hsz : ns.length ≤ sizeLine)
  (h : ∀ h', v6 h' x dx C (fun y => if y = name then some v else mA y) → Heap.SameBut dx s.heap h' → Q () { s with heap := h', toks := s.toks + 2 }) :
  wpAny (model prog w) A (setAttr (.ref x) name v) Q E s := by
 obtain ⟨od, J, hl⟩ := I.look
 refine PySem.W.set_plain X J hs (PySem.W.osa_open (s := { s with toks := s.toks + 1 }) (r := none) X J hp ht fun b => ?_)
 obtain ⟨cd, hc, hd'⟩ := PySem.W.any_some hh
 have hx : s.heap.get? x = some ⟨.ref C, some dx, .plain, #[]⟩ := I.obj
 refine wpAny_bind (wpAny_pure (wpAny_bind (wpAny_bind (wpAny_loadPart hx (wpAny_bind (PySem.W.Looks.here (s := { s with toks := s.toks + 1 }) (PySem.W.looks_clsIn X hc) ?_))))))
 rw [hd']
 refine wpAny_pure (a := some dx) (wpAny_bind (wpAny_pure (wpAny_bind ?_)))
 refine wpAny_nsSet1 (s := { s with toks := s.toks + 1 }) I.ns fun h' hn2 hs2 => ?_
 obtain ⟨oD, esD, epD, hoD, hdD, hcD⟩ := hn2.count (PySem.Within.cons name v hw)
 refine wpAny_bind (wpAny_lookBehind hoD (by rw [hdD]; exact pastItsLine_dict (Nat.le_trans hcD (by rw [List.length_cons]; omega))) ?_)
 exact wpAny_pure (h _ ⟨(hs2.2 _ (Ne.symm I.ne)).trans I.obj, hn2, I.ne⟩ hs2)
theorem zR {R : Result → Shared → Prop} {vs : List Value} {kw : List (Str × Value)} (X : K.In s.heap) (hm : PySem.W.makesIn K C = true)
  (hi : PySem.W.findIn K (.ref C) "__init__" = some (some (.ref f))) (hf : PySem.W.typeIn K (.ref f) = some (.type "function"))
  (h : codeAny (model prog w) (A.under (.builtin "type.__call__" ⟨.ref C :: vs, kw⟩)) (.call (.ref f) ⟨.ref (s.heap.objs.size + 1) :: vs, kw⟩) (PySem.W.InitBack (s.heap.objs.size + 1) R)
   { s with heap := (s.heap.push PySem.W.emptyDict).push (PySem.W.instObj C s.heap.objs.size) }) :
  codeAny (model prog w) A (.call (.ref C) ⟨vs, kw⟩) R s := by
 obtain ⟨hh, g, d, t, os⟩ := s
 exact PySem.W.make_core (PySem.W.makes_of X hm) (PySem.W.looks_findIn X hi) (fun self => PySem.W.bind_fn X self hf) (.inl rfl) h
end
def jW (f : Str) (v : V) : List (Str × V) → List (Str × V)
 | [] => [(f, v)]
 | (g, x) :: r => if g = f then (g, v) :: r else (g, x) :: jW f v r
theorem nY (f g : Str) (v : V) : ∀ fs : List (Str × V), (jW f v fs).lookup g = if g = f then some v else fs.lookup g
 | [] => by
  show List.lookup g [(f, v)] = _
  by_cases h : g = f
  ·have hb : (g == f) = true := beq_iff_eq.mpr h
   simp only [List.lookup, hb, if_pos h]
  ·have hb : (g == f) = false := beq_eq_false_iff_ne.mpr h
   simp only [List.lookup, hb, if_neg h]
 | (k, x) :: r => by
  have ih := nY f g v r
  rw [show jW f v ((k, x) :: r) = (if k = f then (k, v) :: r else (k, x) :: jW f v r) from rfl]
  by_cases hk : k = f
  ·rw [if_pos hk]
   by_cases h : g = k
   ·have hb : (g == k) = true := beq_iff_eq.mpr h
    simp only [List.lookup, hb, if_pos (h.trans hk)]
   ·have hb : (g == k) = false := beq_eq_false_iff_ne.mpr h
    simp only [List.lookup, hb, if_neg (fun e : g = f => h (e.trans hk.symm))]
  ·rw [if_neg hk]
   by_cases h : g = k
   ·have hb : (g == k) = true := beq_iff_eq.mpr h
    simp only [List.lookup, hb, if_neg (fun e : g = f => hk (h.symm.trans e))]
   ·have hb : (g == k) = false := beq_eq_false_iff_ne.mpr h
    simp only [List.lookup, hb]
    exact ih
theorem mJ (f : Str) (v : V) : ∀ fs : List (Str × V), f ∈ (jW f v fs).map (·.1) ∧ ∀ g, g ∈ fs.map (·.1) → g ∈ (jW f v fs).map (·.1)
 | [] => ⟨by simp [jW], fun g h => by simp at h⟩
 | (k, x) :: r => by
  obtain ⟨i1, i2⟩ := mJ f v r
  rw [show jW f v ((k, x) :: r) = (if k = f then (k, v) :: r else (k, x) :: jW f v r) from rfl]
  by_cases hk : k = f
  ·rw [if_pos hk]
   subst hk
   exact ⟨by simp, fun g h => by simpa using h⟩
  ·rw [if_neg hk]
   refine ⟨?_, fun g h => ?_⟩
   ·rw [List.map_cons]
    exact List.mem_cons_of_mem _ i1
   ·rw [List.map_cons] at h ⊢
    rcases List.mem_cons.mp h with e | e
    ·exact List.mem_cons.mpr (.inl e)
    ·exact List.mem_cons_of_mem _ (i2 g e)
theorem nR (f : Str) (v : V) : ∀ fs : List (Str × V), (jW f v fs).length ≤ fs.length + 1
 | [] => by simp [jW]
 | (k, x) :: r => by
  have ih := nR f v r
  rw [show jW f v ((k, x) :: r) = (if k = f then (k, v) :: r else (k, x) :: jW f v r) from rfl]
  by_cases hk : k = f
  ·rw [if_pos hk, List.length_cons, List.length_cons]; omega
  ·rw [if_neg hk, List.length_cons, List.length_cons]; omega
theorem qK.some_of {v : V} {o : Option Value} (r : qK (some v) o) : ∃ u, o = some u ∧ RelV v u := by
 cases o with
 | none => exact (show False from r).elim
 | some u => exact ⟨u, rfl, r⟩
theorem qK.none_of {o : Option Value} (r : qK none o) : o = none := by
 cases o with
 | none => rfl
 | some u => exact (show False from r).elim
theorem zj {v : V} {u : Value} (r : RelV v u) : PySem.W.handedIn u = true := by
 cases v with
 | non => cases (show u = Value.none from r); rfl
 | bl b => cases (show u = Value.bool b from r); rfl
 | int i => obtain ⟨t, e⟩ := (show ∃ t, u = Value.int i t from r); cases e; rfl
 | str x => obtain ⟨t, e⟩ := (show ∃ t, u = Value.str x t from r); cases e; rfl
 | byt b => obtain ⟨t, e⟩ := (show ∃ t, u = Value.bytes b t from r); cases e; rfl
 | flt b => obtain ⟨t, e⟩ := (show ∃ t, u = Value.float b t from r); cases e; rfl
 | ref a => cases (show u = Value.ref a from r); rfl
 | ty n => cases (show u = Value.type n from r); rfl
section
variable {P : Program} {w : World} {H H' : Hp} {h h' : Heap} {a C dx : Addr} {fs fs' : List (Str × V)}
theorem o8 (hok : HOk P w H h) (e : H a = some (.ins C dx fs)) : ∃ mA, v6 h a dx C mA ∧ (∀ f, qK (fs.lookup f) (mA f)) ∧ PySem.Within mA (fs.map (·.1)) ∧ fs.length ≤ 1000 ∧ H dx = some (.own a) := by
 obtain ⟨d, z, ne, ob, mA, n, r, q⟩ := (show cj P w H h a (.ins C dx fs) from hok a _ e)
 exact ⟨mA, ⟨ob, n, ne⟩, r, q, z, d⟩
end
structure Cls (K : PySem.W.Frag) (C : Addr) : Prop where
 pg : PySem.W.plainGet K C Str.empty = true
 hd : PySem.W.hasDictIn K C = true
 po : PySem.W.plainOver K C = true
 sa : PySem.W.findIn K (.ref C) "__setattr__" = some (some (.builtin "object.__setattr__"))
theorem Cls.get {K : PySem.W.Frag} {C : Addr} (c : Cls K C) (f : Str) : PySem.W.plainGet K C f = true := c.pg
def iG (K : PySem.W.Frag) (C : Addr) (f : Str) : Prop := PySem.W.findIn K (.ref C) f = some none
theorem iG.taker {K : PySem.W.Frag} {C : Addr} {f : Str} (n : iG K C f) : PySem.W.takerIn K C f = some none := by
 unfold PySem.W.takerIn
 rw [show PySem.W.findIn K (.ref C) f = some none from n]
 rfl
structure Meth (K : PySem.W.Frag) (C : Addr) (m : Str) (f : Addr) : Prop where
 at_ : PySem.W.findIn K (.ref C) m = some (some (.ref f))
 fn : PySem.W.isFn K (.ref f) = true
 kp : PySem.W.keepIn K (.ref f) = true
section
variable {X : Cx} {pins : List (Addr × Obj)} {σ : St} {H : Hp} {s : Shared} {a C dx : Addr} {fs : List (Str × V)} {f : Str} {v : V} {A : Around} {E : Value → Shared → Prop}
theorem v5 {b : Bool} {Q : Value → Shared → Prop} (I : Inv X pins σ H s) (e : H a = some (.ins C dx fs)) (c : Cls X.K C) (n : iG X.K C f) (l : fs.lookup f = some v)
  (h : ∀ u s', Inv X pins σ H s' → RelV v u → Q u s') : wpAny (model X.prog X.w) A (getAttr (.ref a) f b) Q E s := by
 obtain ⟨mA, O, r, _, _, _⟩ := o8 I.hok e
 obtain ⟨u, hu, ru⟩ := qK.some_of (v := v) (o := mA f) (by rw [← l]; exact r f)
 exact Bp I.kIn O (c.get f) c.hd n hu (zj ru) (h u _ (I.tok _) ru)
theorem j5 {m : Str} {g : Addr} {pl : Sem Bool} {Q : Value × List Value → Shared → Prop} (I : Inv X pins σ H s) (e : H a = some (.ins C dx fs)) (c : Cls X.K C) (k : Meth X.K C m g) (l : fs.lookup m = none)
  (h : Q (.ref g, [.ref a]) s) : wpAny (model X.prog X.w) A (getMethod (.ref a) m pl) Q E s := by
 obtain ⟨mA, O, r, _, _, _⟩ := o8 I.hok e
 have hn : mA m = none := qK.none_of (by rw [← l]; exact r m)
 exact zP I.kIn O (c.get m) k.at_ k.fn hn h
theorem wK {y : V} {u : Value} {Q : Unit → Shared → Prop} (I : Inv X pins σ H s) (e : H a = some (.ins C dx fs)) (c : Cls X.K C) (n : iG X.K C f) (hl : fs.length < 1000) (ry : RelV y u)
  (h : ∀ s', Inv X pins σ (upd H a (.ins C dx (jW f y fs))) s' → Q () s') : wpAny (model X.prog X.w) A (setAttr (.ref a) f u) Q E s := by
 obtain ⟨mA, O, r, wi, _, ho⟩ := o8 I.hok e
 have hz : (fs.map (·.1)).length ≤ sizeLine := by rw [List.length_map, sizeLine_eq]; omega
 refine BZ I.kIn O c.sa c.po n.taker c.hd wi hz fun h' O' sb => h _ ?_
 have hd : ∃ o, h'.get? dx = some o := let ⟨o, _, _, e', _⟩ := O'.ns; ⟨o, e'⟩
 refine I.write (x := a) (e := dx) (by rw [e]; exact True.intro) (.inr ho) (fun b q hb z => (sb.2 b hb).trans z) hd ?_
 refine ⟨by rw [aC O.ne]; exact ho, ?_, O.ne, O'.obj, _, O'.ns, fun g => ?_, fun g hg => ?_⟩
 ·have := nR f y fs; omega
 ·show qK ((jW f y fs).lookup g) (if g = f then some u else mA g)
  rw [nY]
  by_cases q : g = f
  ·rw [if_pos q, if_pos q]; exact ry
  ·rw [if_neg q, if_neg q]; exact r g
 ·by_cases q : g = f
  ·rw [q]; exact (mJ f y fs).1
  ·refine (mJ f y fs).2 g (wi g fun z => hg ?_)
   show (if g = f then some u else mA g) = none
   rw [if_neg q]; exact z
theorem Inv.made (I : Inv X pins σ H s) : Inv X pins σ (upd (upd H s.heap.objs.size (.own (s.heap.objs.size + 1))) (s.heap.objs.size + 1) (.ins C s.heap.objs.size []))
  { s with heap := (s.heap.push PySem.W.emptyDict).push (PySem.W.instObj C s.heap.objs.size) } := by
 have e1 : (s.heap.push PySem.W.emptyDict).get? s.heap.objs.size = some PySem.W.emptyDict := Heap.get?_push_size s.heap rfl
 have e2 : ((s.heap.push PySem.W.emptyDict).push (PySem.W.instObj C s.heap.objs.size)).get? (s.heap.objs.size + 1) = some (PySem.W.instObj C s.heap.objs.size) := by
  have := Heap.get?_push_size (s.heap.push PySem.W.emptyDict) (o := PySem.W.instObj C s.heap.objs.size) rfl
  rwa [Heap.size_push] at this
 have e3 : (s.heap.push PySem.W.emptyDict).Ns s.heap.objs.size (fun _ => none) := ⟨PySem.W.emptyDict, #[], _, e1, rfl, (fun e he => absurd he (by simp)), fun _ => rfl⟩
 have I1 := I.laid (a := s.heap.objs.size) (o := .own (s.heap.objs.size + 1)) (h' := s.heap.push PySem.W.emptyDict) (t' := s.toks) (fun b u q => Heap.get?_push_of_some _ q) (Nat.le_refl _) ⟨_, e1⟩
 refine I1.laid (a := s.heap.objs.size + 1) (o := .ins C s.heap.objs.size []) (t' := s.toks) (fun b u q => Heap.get?_push_of_some _ q) (Nat.le_of_eq (Heap.size_push _ _)) ?_
 have ne : s.heap.objs.size ≠ s.heap.objs.size + 1 := Nat.ne_of_lt (Nat.lt_succ_self _)
 refine ⟨by rw [aC ne, ak], Nat.zero_le _, ne, e2, fun _ => none, (Heap.Ns1.of_empty e3).at fun o q => Heap.get?_push_of_some _ q, fun _ => True.intro, fun y hy => absurd rfl hy⟩
theorem Cp {prog : Program} {w : World} {env : Env} {e : Expr} {f : Str} {pos : Pos} {s : Shared} {Q : Value → Shared → Prop} (hb : attributeBase e f env (eval e env) = eval e env)
  (h : wpAny (model prog w) A (eval e env) (fun o s₁ => wpAny (model prog w) A (getAttr o f true) Q E s₁) E s) : wpAny (model prog w) A (eval (.Attribute e f pos) env) Q E s :=
 Attribute_any_ h (by rw [arm_eval_Attribute, hb])
end
def Gp (K : PySem.W.Frag) (ta : TE) (f : Str) : TE := fun σ H Q => ta σ H fun x H1 => ∃ a C dx fs v, x = .ref a ∧ H1 a = some (.ins C dx fs) ∧ Cls K C ∧ iG K C f ∧ fs.lookup f = some v ∧ Q v H1
def Ge (K : PySem.W.Frag) (ta tv : TE) (f : Str) : TS := fun D σ H => tv σ H fun y H1 => ta σ H1 fun x H2 => ∃ a C dx fs, x = .ref a ∧ H2 a = some (.ins C dx fs) ∧ Cls K C ∧ iG K C f ∧ fs.length < 1000 ∧
 D.nx σ (upd H2 a (.ins C dx (jW f y fs)))
section
variable {X : Cx} {o e value : Expr} {f : Str} {pos pos' tpos : Pos} {ta tv : TE}
theorem cH (he : PE X e ta) (hb : attributeBase e f X.env (eval e X.env) = eval e X.env) : PE X (.Attribute e f pos) (Gp X.K ta f) := by
 intro pins s σ H Q I h
 refine Cp hb (thn (he pins s σ H _ I h) fun u s1 ⟨x, H1, I1, rx, a, C, dx, fs, v, ex, ea, c, n, l, q⟩ => ?_)
 subst ex
 obtain rfl : u = Value.ref a := rx
 exact v5 I1 ea c n l fun u' s2 I2 ru => ⟨v, H1, I2, ru, q⟩
theorem jB (ha : PE X o ta) (hv : PE X value tv) (hs : swapsWith value (some (.Attribute o f pos')) pos.line X.env = pure false) : PS X (.Assign [.Attribute o f pos'] value pos) (Ge X.K ta tv f) := by
 intro pins s σ H D I h
 refine plainObj_wpAny_Assign_Attribute (thn (hv pins s σ H _ I h) fun u s1 ⟨y, H1, I1, ry, q⟩ => thn (ha pins s1 σ H1 _ I1 q) fun ov s2 ⟨x, H2, I2, rx, a, C, dx, fs, ex, ea, c, n, l, q2⟩ => ?_) hs
 subst ex
 obtain rfl : ov = Value.ref a := rx
 exact wK I2 ea c n l ry fun s3 I3 => ⟨σ, _, I3, q2⟩
theorem CG {pl : Sem Bool} {m : Str} {apos : Pos} {args : List Expr} {pins : List (Addr × Obj)} {s : Shared} {σ : St} {H : Hp} {Q : Value → Shared → Prop} {te : TE} (he : PE X e te) (I : Inv X pins σ H s)
  (h : te σ H fun x H1 => ∃ a C dx fs g, x = .ref a ∧ H1 a = some (.ins C dx fs) ∧ Cls X.K C ∧ Meth X.K C m g ∧ fs.lookup m = none ∧
   ∀ s1, Inv X pins σ H1 s1 → wpAny (model X.prog X.w) X.A (callWith pos (.ref g) [.ref a] (backTo pos (starEach args X.env)) (backToKw pos (keywordEach [] X.env))) Q X.xe s1)
  (ht : eval (.Call (.Attribute e m apos) args [] pos) X.env = (do
   let ov ← eval e X.env
   standAt apos.atName
   let (f, first) ← holding [ov] (getMethod ov m pl)
   callWith pos f first (backTo pos (starEach args X.env)) (backToKw pos (keywordEach [] X.env)))) :
  wpAny (model X.prog X.w) X.A (eval (.Call (.Attribute e m apos) args [] pos) X.env) Q X.xe s := by
 refine PySem.W.methodCall_KW (pl := pl) (thn (he pins s σ H _ I h) fun u s1 ⟨x, H1, I1, rx, a, C, dx, fs, g, ex, ea, c, k, l, q⟩ => ?_) ht
 subst ex
 obtain rfl : u = Value.ref a := rx
 exact j5 I1 ea c k l (q s1 I1)
end
section
variable {X : Cx} {pins : List (Addr × Obj)} {σ : St} {H : Hp} {s : Shared} {A : Around} {E : Value → Shared → Prop} {Q : Value → Shared → Prop} {c : Value} {b : Bool}
inductive m6 (K : PySem.W.Frag) (H : Hp) : V → Value → Prop where
 | non : m6 K H .non (.type "NoneType")
 | bl (x : Bool) : m6 K H (.bl x) (.type "bool")
 | int (i : Int) : m6 K H (.int i) (.type "int")
 | str (x : Str) : m6 K H (.str x) (.type "str")
 | flt (x : UInt64) : m6 K H (.flt x) (.type "float")
 | lst {a : Addr} {xs : List V} (e : H a = some (.lst xs)) : m6 K H (.ref a) (.type "list")
 | frz {a : Addr} {o : Obj} {xs : List V} (e : H a = some (.frz o (.lst xs))) : m6 K H (.ref a) (.type "list")
 | tup {a : Addr} {xs : List V} (e : H a = some (.tup xs)) : m6 K H (.ref a) (.type "tuple")
 | dK {a : Addr} {kvs : List (Key × V)} (e : H a = some (.dK kvs)) : m6 K H (.ref a) (.type "dict")
 | dT {a : Addr} {kvs : List (List Key × V)} (e : H a = some (.dT kvs)) : m6 K H (.ref a) (.type "dict")
 | ins {a C dx : Addr} {fs : List (Str × V)} (e : H a = some (.ins C dx fs)) (cl : Cls K C) (ha : PySem.W.findIn K (.ref C) "__class__" = some (some (.builtin "object.__class__")))
   (hn : PySem.W.specialIn K (.builtin "object.__class__") "__get__" = some (some (.builtin "getset_descriptor.__get__"))) (htk : PySem.W.takesIn K (.builtin "object.__class__") = some true)
   (hm : PySem.W.mroIn K C (.type "object") = some true) : m6 K H (.ref a) (.ref C)
theorem yZ {x : V} {u t : Value} (I : Inv X pins σ H s) (rx : RelV x u) (ty : m6 X.K H x t) (e : PySem.W.kitOne X.K t c = some b) (h : ∀ tk, Q (.bool b) { s with toks := tk }) :
  wpAny (model X.prog X.w) A (call (.builtin "isinstance") [u, c]) Q E s := by
 cases ty with
 | non => cases (show u = Value.none from rx); exact PySem.W.kia_one PySem.W.kitx_none I.kIn True.intro e (fun z => nomatch z) h
 | bl y => cases (show u = Value.bool y from rx); exact PySem.W.kia_one PySem.W.kitx_bool I.kIn True.intro e (fun z => nomatch z) h
 | int i => obtain ⟨t, q⟩ := (show ∃ t, u = Value.int i t from rx); cases q; exact PySem.W.kia_one PySem.W.kitx_int I.kIn True.intro e (fun z => nomatch z) h
 | str y => obtain ⟨t, q⟩ := (show ∃ t, u = Value.str y t from rx); cases q; exact PySem.W.kia_one PySem.W.kitx_str I.kIn True.intro e (fun z => nomatch z) h
 | flt y => obtain ⟨t, q⟩ := (show ∃ t, u = Value.float y t from rx); cases q; exact PySem.W.kia_one PySem.W.kitx_float I.kIn True.intro e (fun z => nomatch z) h
 | @lst a xs ea =>
  cases (show u = Value.ref a from rx)
  obtain ⟨_, _, n, _, h1⟩ := (show cj X.prog X.w H s.heap a (.lst xs) from I.hok a _ ea)
  exact PySem.W.kia_one PySem.W.kitx_list I.kIn ⟨_, h1, rfl⟩ e (fun z => nomatch z) h
 | @frz a ob xs ea =>
  cases (show u = Value.ref a from rx)
  obtain ⟨_, _, _, n, _, h1⟩ := (show cj X.prog X.w H s.heap a (.frz ob (.lst xs)) from I.hok a _ ea)
  exact PySem.W.kia_one PySem.W.kitx_list I.kIn ⟨_, h1, rfl⟩ e (fun z => nomatch z) h
 | @tup a xs ea =>
  cases (show u = Value.ref a from rx)
  obtain ⟨_, _, _, p⟩ := (show cj X.prog X.w H s.heap a (.tup xs) from I.hok a _ ea)
  obtain ⟨o, h1, h2, _⟩ := p
  exact PySem.W.kia_one PySem.W.kitx_tuple I.kIn ⟨o, h1, h2⟩ e (fun z => nomatch z) h
 | @dK a kvs ea =>
  cases (show u = Value.ref a from rx)
  obtain ⟨_, _, vs, _, p⟩ := (show cj X.prog X.w H s.heap a (.dK kvs) from I.hok a _ ea)
  obtain ⟨o, es, ep, h1, h2, _⟩ := p
  exact PySem.W.kia_one PySem.W.kitx_dict I.kIn ⟨o, h1, h2.1⟩ e (fun z => nomatch z) h
 | @dT a kvs ea =>
  cases (show u = Value.ref a from rx)
  obtain ⟨_, _, xs, _, o, es, ep, h1, h2, _⟩ := (show cj X.prog X.w H s.heap a (.dT kvs) from I.hok a _ ea)
  exact PySem.W.kia_one PySem.W.kitx_dict I.kIn ⟨o, h1, h2.1⟩ e (fun z => nomatch z) h
 | @ins a C dx fs ea cl ha hn htk hm =>
  cases (show u = Value.ref a from rx)
  obtain ⟨mA, O, _⟩ := o8 I.hok ea
  obtain ⟨od, J, _⟩ := O.look
  exact PySem.W.kia_one (PySem.W.kitx_own (cl.get _) cl.hd ha hn htk hm) I.kIn J e (fun z => nomatch z) h
end
end L2
namespace L2
open PySem PySem.Spec PyProof.Rows
structure cJ (k : Nat) (A : Around) : Prop where
 hd : A.handled = none
 dp : A.depth + 3 * k + 5 < recursionLimit
 un : A.units + 16 * k + 200 < cLine
theorem cJ.mono {j k : Nat} {A : Around} (r : cJ k A) (h : j ≤ k) : cJ j A := ⟨r.hd, by have := r.dp; omega, by have := r.un; omega⟩
theorem cJ.deeper {k : Nat} {A : Around} (r : cJ (k + 1) A) (env : Env) : cJ k (A.deeper env) :=
 ⟨r.hd, by have := r.dp; show A.depth + 1 + 3 * k + 5 < _; omega, by have := r.un; show A.units + 3 + 16 * k + 200 < _; omega⟩
theorem vM {A : Around} {C : Addr} {us : List Value} {kw : List (Str × Value)} : (A.under (.builtin "type.__call__" ⟨.ref C :: us, kw⟩)).depth = A.depth + 1 := by
 first | rfl | simp [Around.under, Code.weight, Code.isCreation, Code.isGuard, Code.isCaller, Code.frames, Code.isFrame, guardIds]
theorem wV {A : Around} {C : Addr} {us : List Value} {kw : List (Str × Value)} : (A.under (.builtin "type.__call__" ⟨.ref C :: us, kw⟩)).units = A.units + 1 := by
 first | rfl | simp [Around.under, Code.cUnits, Code.frames, Code.isFrame]
theorem cJ.make {k : Nat} {A : Around} (r : cJ (k + 1) A) (C : Addr) (us : List Value) (kw : List (Str × Value)) : cJ k (A.under (.builtin "type.__call__" ⟨.ref C :: us, kw⟩)) :=
 ⟨r.hd, by have := r.dp; rw [vM]; omega, by have := r.un; rw [wV]; omega⟩
theorem cJ.depth {k : Nat} {A : Around} (r : cJ k A) : A.depth < recursionLimit := by have := r.dp; omega
theorem cJ.units {k : Nat} {A : Around} (r : cJ k A) : A.units + 64 < cLine := by have := r.un; omega
def vA : TA := fun _ H Q => Q [] H
def CK (ta : TE) (tr : TA) : TA := fun σ H Q => ta σ H fun x H1 => tr σ H1 fun xs H2 => Q (x :: xs) H2
section
variable {X : Cx} {e : Expr} {es : List Expr} {te : TE} {t : TA} {pos : Pos}
theorem ao : PA X [] vA := fun _ _ _ _ H Q I h => Calls.spliced_nil ⟨[], H, I, .nil, h⟩
theorem aa (ha : PE X e te) (hr : PA X es t) (hs : starEach (e :: es) X.env = (false, eval e X.env) :: starEach es X.env := by rfl) : PA X (e :: es) (CK te t) := by
 intro pos pins s σ H Q I h
 rw [hs]
 show wpAny _ _ (spliced ((false, eval e X.env) :: backTo pos (starEach es X.env))) _ _ s
 refine Calls.spliced_cons (thn (ha pins s σ H _ I h) fun u s1 ⟨x, H1, I1, r1, q1⟩ => ?_)
 exact thn (hr pos pins s1 σ H1 _ I1 q1) fun us s2 ⟨xs, H2, I2, r2, q2⟩ => ⟨x :: xs, H2, I2, .cons r1 r2, q2⟩
def Gd (t : TA) : TE := fun σ H Q => t σ H fun xs H1 => xs.length ≤ sizeLine ∧ ∀ p, H1 p = none → Q (.ref p) (upd H1 p (.tup xs))
def Fw (t : TA) : TE := fun σ H Q => t σ H fun xs H1 => xs.length ≤ sizeLine ∧ ∀ p, H1 p = none → Q (.ref p) (upd H1 p (.lst xs))
theorem cZ {x1} (h : PA X es t) : PE X (.Tuple es x1 pos) (Gd t) := by
 intro pins s σ H Q I hq
 refine wpAny_Tuple_spliced (thn (h pos pins s σ H _ I hq) fun us s1 ⟨xs, H1, I1, r, z, q⟩ => ⟨by rw [← r.length]; exact z, ?_⟩)
 have hf : H1 s1.heap.objs.size = none := I1.hok.fresh (Nat.le_refl _)
 refine ⟨.ref s1.heap.objs.size, upd H1 s1.heap.objs.size (.tup xs), I1.laid (t' := s1.toks) (fun b u e => Heap.get?_push_of_some _ e) (Nat.le_refl _) ?_, rfl, q _ hf⟩
 exact ⟨z, us, r, ⟨_, Heap.get?_push_size _ rfl, rfl, _, rfl⟩⟩
theorem bO (h : PA X es t) : PE X (.List es pos) (Fw t) := by
 intro pins s σ H Q I hq
 refine wpAny_List_spliced (thn (h pos pins s σ H _ I hq) fun us s1 ⟨xs, H1, I1, r, z, q⟩ => ⟨by rw [← r.length]; exact z, ?_⟩)
 have hf : H1 s1.heap.objs.size = none := I1.hok.fresh (Nat.le_refl _)
 refine ⟨.ref s1.heap.objs.size, upd H1 s1.heap.objs.size (.lst xs), I1.laid (t' := s1.toks) (fun b u e => Heap.get?_push_of_some _ e) (Nat.le_refl _) ?_, rfl, q _ hf⟩
 exact ⟨z, us, 0, r, Heap.get?_push_size _ rfl⟩
end
abbrev Sp := List V → Hp → VK → XK → Prop
abbrev CXT := List Env → Hp → Shared → XK → Value → Shared → Prop
structure qR (P : Program) (w : World) (K : PySem.W.Frag) (mg : Str → Option Value) (base : Heap) (A : Around) (outer : List Env) (s : Shared) (H : Hp) : Prop where
 frames : A.frames = some outer
 mod : Mod K mg base
 bs : ∀ b o, base.get? b = some o → s.heap.get? b = some o ∧ H b = none
 bsz : base.objs.size ≤ s.heap.objs.size
 funs : s.heap.FunFrames base outer
 frf : ∀ b ∈ frs outer, H b = none
 hok : HOk P w H s.heap
 bare : AllBare s.gens
def CE (outer : List Env) (P : Program) (w : World) (H : Hp) (s : Shared) (Q : VK) (u : Value) (s' : Shared) : Prop :=
 ∃ v H', s'.os = s.os ∧ AllBare s'.gens ∧ Un (frs outer) [] H H' s.heap s'.heap ∧ HOk P w H' s'.heap ∧ RelV v u ∧ Q v H'
def CR (CX : CXT) (outer : List Env) (P : Program) (w : World) (H : Hp) (s : Shared) (Q : VK) (E : XK) (r : Result) (s' : Shared) : Prop :=
 match r with
 | .ok (.ret u) => CE outer P w H s Q u s'
 | .ok _ => False
 | .error e => CX outer H s E e s'
structure aW (P : Program) (w : World) (K : PySem.W.Frag) (mg : Str → Option Value) (base : Heap) (CX : CXT) (k : Nat) (f : Addr) (fd : FuncData) (ps : List Str) (sp : Sp) : Prop where
 len : ∀ vs H Q E, sp vs H Q E → vs.length = ps.length
 run : ∀ (A : Around) (outer : List Env) (s : Shared) (H : Hp) (args : Args) (us : List Value) (vs : List V) (Q : VK) (E : XK), cJ k A → qR P w K mg base A outer s H → BindsTo s fd args (ps.zip us) → Vals vs us → sp vs H Q E →
  codeAny (model P w) A (.call (.ref f) args) (CR CX outer P w H s Q E) s
theorem aW.mono {P : Program} {w : World} {K : PySem.W.Frag} {mg : Str → Option Value} {base : Heap} {CX : CXT} {j k : Nat} {f : Addr} {fd : FuncData} {ps : List Str} {sp : Sp} (F : aW P w K mg base CX j f fd ps sp) (h : j ≤ k) :
  aW P w K mg base CX k f fd ps sp := ⟨F.len, fun A outer s H args us vs Q E hr => F.run A outer s H args us vs Q E (hr.mono h)⟩
theorem qR.make {P : Program} {w : World} {K : PySem.W.Frag} {mg : Str → Option Value} {base : Heap} {A : Around} {outer : List Env} {s : Shared} {H : Hp} (e : qR P w K mg base A outer s H) (C : Addr) (us : List Value) (kw : List (Str × Value)) :
  qR P w K mg base (A.under (.builtin "type.__call__" ⟨.ref C :: us, kw⟩)) outer s H := ⟨by first | exact e.frames | (simpa [Around.under, Code.envs, Code.isFrame, pushEnvs] using e.frames), e.mod, e.bs, e.bsz, e.funs, e.frf, e.hok, e.bare⟩
section
variable {X : Cx} {pins : List (Addr × Obj)} {σ : St} {H : Hp} {s s' : Shared}
theorem Inv.env0 (I : Inv X pins σ H s) : qR X.prog X.w X.K X.mg X.base X.A X.stack s H :=
 ⟨I.ok.frames, I.ok.mod, I.bs, Nat.le_trans I.ok.bsz I.sz, I.stack, I.stkFree, I.hok, I.bare⟩
theorem Inv.after {Q : VK} {u : Value} (I : Inv X pins σ H s) (h : CE X.stack X.prog X.w H s Q u s') : EP X pins σ Q u s' := by
 obtain ⟨v, H', os, bare, un, hok, r, q⟩ := h
 obtain ⟨hh, g, d, t, os'⟩ := s'
 obtain rfl : os' = s.os := os
 exact ⟨v, H', I.call (h' := hh) (g' := g) (d' := d) (t' := t) (ch := []) un hok bare (fun b z => absurd z (by simp)), r, q⟩
end
def Cv (sp : Sp) (dvs : List V) (E : XK) (t : TA) : TE := fun σ H Q => t σ H fun vs H1 => sp (vs ++ dvs) H1 Q E
def CN (C : Addr) (m : Str) (sp : Sp) (dvs : List V) (E : XK) (ta : TE) (t : TA) : TE := fun σ H Q => ta σ H fun x H1 => ∃ a dx fs, x = .ref a ∧ H1 a = some (.ins C dx fs) ∧ fs.lookup m = none ∧
 t σ H1 fun vs H2 => sp (x :: (vs ++ dvs)) H2 Q E
def Fy (C : Addr) (sp : Sp) (dvs : List V) (E : XK) (t : TA) : TE := fun σ H Q => t σ H fun vs H1 => ∀ x dx, H1 x = none → H1 dx = none → dx ≠ x →
 sp (.ref x :: (vs ++ dvs)) (upd (upd H1 dx (.own x)) x (.ins C dx [])) (fun v H2 => v = .non ∧ Q (.ref x) H2) E
def Binds (K : PySem.W.Frag) (fd : FuncData) (ps : List Str) (ds : List Value) : Prop :=
 ∀ (s : Shared) (us : List Value), K.In s.heap → (us ++ ds).length = ps.length → BindsTo s fd ⟨us, []⟩ (ps.zip (us ++ ds))
theorem Binds.all {K : PySem.W.Frag} {fd : FuncData} {ps : List Str} (h : ∀ us : List Value, us.length = ps.length → bindArgs fd ⟨us, []⟩ = pure (ps.zip us)) : Binds K fd ps [] := fun s us _ hl => by
 rw [List.append_nil] at hl ⊢
 exact .of_eq (h us hl)
def gk (CX : CXT) (X : Cx) (E : XK) : Prop := ∀ (pins : List (Addr × Obj)) (σ : St) (H : Hp) (s : Shared) (e : Value) (s' : Shared), Inv X pins σ H s → CX X.stack H s E e s' → X.xe e s'
section
variable {X : Cx} {CX : CXT} {k : Nat} {f C : Addr} {fd : FuncData} {ps : List Str} {sp : Sp} {dvs : List V} {ds : List Value} {E : XK} {x m : Str} {p pos apos : Pos} {e o : Expr} {es : List Expr} {ta : TE} {t : TA}
theorem vL {pins : List (Addr × Obj)} {σ : St} {H : Hp} {s : Shared} {Q : VK} {us : List Value} {vs : List V} (F : aW X.prog X.w X.K X.mg X.base CX k f fd ps sp) (hr : cJ k X.A) (hb : Binds X.K fd ps ds) (hd : Vals dvs ds) (hx : gk CX X E)
  (I : Inv X pins σ H s) (r : Vals vs us) (h : sp (vs ++ dvs) H Q E) : wpAny (model X.prog X.w) X.A (call (.ref f) us) (EP X pins σ Q) X.xe s := by
 have r2 : Vals (vs ++ dvs) (us ++ ds) := r.append hd
 have hl : (us ++ ds).length = ps.length := by rw [← r2.length]; exact F.len _ _ _ _ h
 refine wpAny_call (codeAny_mono (F.run X.A X.stack s H ⟨us, []⟩ (us ++ ds) (vs ++ dvs) Q E hr I.env0 (hb s us I.kIn hl) r2 h) fun r s' hq => ?_)
 cases r with
 | error e => exact hx pins σ H s e s' I hq
 | ok fl =>
  cases fl with
  | ret u => exact I.after hq
  | next => exact False.elim hq
  | brk => exact False.elim hq
  | cont => exact False.elim hq
theorem Cd (F : aW X.prog X.w X.K X.mg X.base CX k f fd ps sp) (hr : cJ k X.A) (hg : Gl X x) (hm : X.mg x = some (.ref f)) (hk : PySem.W.keepIn X.K (.ref f) = true) (hb : Binds X.K fd ps ds) (hd : Vals dvs ds) (hx : gk CX X E)
  (ha : PA X (e :: es) t) (hdb : (x == ("__debug__" : Str)) = false := by decide) (he : starEach (e :: es) X.env = (false, eval e X.env) :: starEach es X.env := by rfl) (hpl : (backTo pos (starEach es X.env)).any (·.1) = false := by rfl) :
  PE X (.Call (.Name x p) (e :: es) [] pos) (Cv sp dvs E t) := by
 intro pins s σ H Q I h
 refine wpAny_Call_Name_kw (lU I hg hm ?_ hdb)
 refine PySem.W.callWith_K (h₀ := X.base) I.ok.mod.kin hk (thn (ha pos pins s σ H _ I h) fun us s1 ⟨vs, H1, I1, r, q⟩ => ⟨I1.kIn, ?_⟩) he hpl
 exact vL F hr hb hd hx I1 r q
theorem ue {pl : Sem Bool} (he : PE X o ta) (c : Cls X.K C) (hm : Meth X.K C m f) (F : aW X.prog X.w X.K X.mg X.base CX k f fd ps sp) (hr : cJ k X.A) (hb : Binds X.K fd ps ds) (hd : Vals dvs ds) (hx : gk CX X E) (ha : PA X (e :: es) t)
  (hst : starEach (e :: es) X.env = (false, eval e X.env) :: starEach es X.env := by rfl) (hpl : (backTo pos (starEach es X.env)).any (·.1) = false := by rfl)
  (ht : eval (.Call (.Attribute o m apos) (e :: es) [] pos) X.env = (do
   let ov ← eval o X.env
   standAt apos.atName
   let (f, first) ← holding [ov] (getMethod ov m pl)
   callWith pos f first (backTo pos (starEach (e :: es) X.env)) (backToKw pos (keywordEach [] X.env))) := by rfl) :
  PE X (.Call (.Attribute o m apos) (e :: es) [] pos) (CN C m sp dvs E ta t) := by
 intro pins s σ H Q I h
 refine PySem.W.methodCall_KW (pl := pl) (thn (he pins s σ H _ I h) fun u s1 ⟨x, H1, I1, rx, a, dx, fs, ex, ea, l, q⟩ => ?_) ht
 subst ex
 obtain rfl : u = Value.ref a := rx
 refine j5 I1 ea c hm l ?_
 refine PySem.W.callWith_K (first := [.ref a]) (h₀ := X.base) I.ok.mod.kin hm.kp (thn (ha pos pins s1 σ H1 _ I1 q) fun us s2 ⟨vs, H2, I2, r, q2⟩ => ⟨I2.kIn, ?_⟩) hst hpl
 exact vL (us := .ref a :: us) (vs := .ref a :: vs) F hr hb hd hx I2 (.cons rfl r) q2
theorem bY {pl : Sem Bool} (he : PE X o ta) (c : Cls X.K C) (hm : Meth X.K C m f) (F : aW X.prog X.w X.K X.mg X.base CX k f fd ps sp) (hr : cJ k X.A) (hb : Binds X.K fd ps ds) (hd : Vals dvs ds) (hx : gk CX X E)
  (ht : eval (.Call (.Attribute o m apos) [] [] pos) X.env = (do
   let ov ← eval o X.env
   standAt apos.atName
   let (f, first) ← holding [ov] (getMethod ov m pl)
   callWith pos f first (backTo pos (starEach [] X.env)) (backToKw pos (keywordEach [] X.env))) := by rfl) :
  PE X (.Call (.Attribute o m apos) [] [] pos) (CN C m sp dvs E ta vA) := by
 intro pins s σ H Q I h
 refine PySem.W.methodCall_KW (pl := pl) (thn (he pins s σ H _ I h) fun u s1 ⟨x, H1, I1, rx, a, dx, fs, ex, ea, l, q⟩ => ?_) ht
 subst ex
 obtain rfl : u = Value.ref a := rx
 refine j5 I1 ea c hm l ?_
 exact PySem.W.callWith_K0 (first := [.ref a]) I1.kIn hm.kp (vL (us := [.ref a]) (vs := [.ref a]) F hr hb hd hx I1 (.cons rfl .nil) q)
structure Mk (K : PySem.W.Frag) (C f : Addr) : Prop where
 makes : PySem.W.makesIn K C = true
 init : PySem.W.findIn K (.ref C) "__init__" = some (some (.ref f))
 fn : PySem.W.isFn K (.ref f) = true
 kp : PySem.W.keepIn K (.ref C) = true
theorem zG {pins : List (Addr × Obj)} {σ : St} {H : Hp} {s : Shared} {Q : VK} {us : List Value} {vs : List V} (M : Mk X.K C f) (F : aW X.prog X.w X.K X.mg X.base CX k f fd ps sp) (hr : cJ (k + 1) X.A) (hb : Binds X.K fd ps ds) (hd : Vals dvs ds)
  (hx : gk CX X E) (I : Inv X pins σ H s) (r : Vals vs us)
  (h : ∀ x dx, H x = none → H dx = none → dx ≠ x → sp (.ref x :: (vs ++ dvs)) (upd (upd H dx (.own x)) x (.ins C dx [])) (fun v H2 => v = .non ∧ Q (.ref x) H2) E) :
  wpAny (model X.prog X.w) X.A (call (.ref C) us) (EP X pins σ Q) X.xe s := by
 have hq := h (s.heap.objs.size + 1) s.heap.objs.size (I.hok.fresh (Nat.le_succ _)) (I.hok.fresh (Nat.le_refl _)) (Nat.ne_of_lt (Nat.lt_succ_self _))
 have I2 := Inv.made (C := C) I
 have r2 : Vals (V.ref (s.heap.objs.size + 1) :: (vs ++ dvs)) (Value.ref (s.heap.objs.size + 1) :: (us ++ ds)) := .cons rfl (r.append hd)
 have hl : (Value.ref (s.heap.objs.size + 1) :: us ++ ds).length = ps.length := by
  have e := r2.length
  rw [F.len _ _ _ _ hq] at e
  exact e.symm
 refine wpAny_call (zR (f := f) I.kIn M.makes M.init (beq_iff_eq.mp M.fn) (codeAny_mono (F.run _ X.stack _ _ ⟨Value.ref (s.heap.objs.size + 1) :: us, []⟩ (Value.ref (s.heap.objs.size + 1) :: (us ++ ds)) _ _ E (hr.make C us [])
  (I2.env0.make C us []) (hb _ (Value.ref (s.heap.objs.size + 1) :: us) I2.kIn hl) r2 hq) fun r s' hq' => ?_))
 cases r with
 | error e => exact hx pins σ _ _ e s' I2 hq'
 | ok fl =>
  cases fl with
  | ret u =>
   obtain ⟨v, H', I3, rv, ev, q3⟩ := I2.after hq'
   subst ev
   exact ⟨rv, ⟨V.ref (s.heap.objs.size + 1), H', I3, rfl, q3⟩⟩
  | next => exact False.elim hq'
  | brk => exact False.elim hq'
  | cont => exact False.elim hq'
theorem By (M : Mk X.K C f) (F : aW X.prog X.w X.K X.mg X.base CX k f fd ps sp) (hr : cJ (k + 1) X.A) (hg : Gl X x) (hm : X.mg x = some (.ref C)) (hb : Binds X.K fd ps ds) (hd : Vals dvs ds) (hx : gk CX X E)
  (ha : PA X (e :: es) t) (hdb : (x == ("__debug__" : Str)) = false := by decide) (he : starEach (e :: es) X.env = (false, eval e X.env) :: starEach es X.env := by rfl) (hpl : (backTo pos (starEach es X.env)).any (·.1) = false := by rfl) :
  PE X (.Call (.Name x p) (e :: es) [] pos) (Fy C sp dvs E t) := by
 intro pins s σ H Q I h
 refine wpAny_Call_Name_kw (lU I hg hm ?_ hdb)
 refine PySem.W.callWith_K (h₀ := X.base) I.ok.mod.kin M.kp (thn (ha pos pins s σ H _ I h) fun us s1 ⟨vs, H1, I1, r, q⟩ => ⟨I1.kIn, ?_⟩) he hpl
 exact zG M F hr hb hd hx I1 r q
end
section
variable {X : Cx} {CX : CXT} {k : Nat} {f C : Addr} {fd : FuncData} {ps ks : List Str} {sp : Sp} {E : XK} {x m : Str} {p pos apos kpos : Pos} {e o : Expr} {es : List Expr} {kws : List Keyword} {te ta : TE} {t tk : TA} {nm : Option Str}
variable {g : List Value → List Value → List Value} {gV : List V → List V → List V}
end
structure aF (N P : List Str) (sc : Scope) : Prop where
 kind : sc.kind = .function
 co : sc.isCoroutine = false
 gen : sc.isGenerator = false
 nd : N.Nodup
 pre : N.take P.length = P
 par : ∀ x ∈ P, sc.names.lookup x = some .local ∨ sc.names.lookup x = some .cell
 nofree : ∀ y ∈ sc.names, y.2 ≠ .free
theorem rm {kindOf : Str → Option NameKind} {x : Str} : ∀ {binds : List (Str × Value)} {m : Str → Option Value}, (∀ v, (x, v) ∉ binds) → bindL kindOf binds m x = m x
 | [], _, _ => rfl
 | (n, v) :: r, m, h => by
  unfold bindL
  rw [rm fun w hw => h w (List.mem_cons_of_mem _ hw)]
  split
  ·have : x ≠ n := by rintro rfl; exact h v List.mem_cons_self
   simp [this]
  ·rfl
theorem rF {kindOf : Str → Option NameKind} {x : Str} : ∀ {binds : List (Str × Value)} {m : Str → Option Value}, (∀ v, (x, v) ∉ binds) → bindC kindOf binds m x = m x
 | [], _, _ => rfl
 | (n, v) :: r, m, h => by
  unfold bindC
  rw [rF fun w hw => h w (List.mem_cons_of_mem _ hw)]
  split
  ·rfl
  ·have : x ≠ n := by rintro rfl; exact h v List.mem_cons_self
   simp [this]
theorem rH {kindOf : Str → Option NameKind} {x : Str} {v : Value} : ∀ {P : List Str} {vs : List Value} {i : Nat} {m : Str → Option Value}, P.Nodup → P[i]? = some x → vs[i]? = some v → kindOf x = some .local →
  bindL kindOf (P.zip vs) m x = some v
 | [], _, _, _, _, h, _, _ => by simp at h
 | _ :: _, [], _, _, _, _, h, _ => by simp at h
 | p :: P, w :: vs, 0, m, nd, h1, h2, hk => by
  simp at h1 h2; subst h1; subst h2
  show bindL kindOf ((p, w) :: P.zip vs) m p = _
  unfold bindL
  rw [rm fun v hv => (List.nodup_cons.mp nd).1 (List.of_mem_zip hv).1, if_pos hk]
  simp
 | p :: P, w :: vs, i + 1, m, nd, h1, h2, hk => by
  show bindL kindOf ((p, w) :: P.zip vs) m x = _
  unfold bindL
  exact rH (i := i) (List.nodup_cons.mp nd).2 (by simpa using h1) (by simpa using h2) hk
theorem rP {kindOf : Str → Option NameKind} {x : Str} {v : Value} : ∀ {P : List Str} {vs : List Value} {i : Nat} {m : Str → Option Value}, P.Nodup → P[i]? = some x → vs[i]? = some v → kindOf x ≠ some .local →
  bindC kindOf (P.zip vs) m x = some v
 | [], _, _, _, _, h, _, _ => by simp at h
 | _ :: _, [], _, _, _, _, h, _ => by simp at h
 | p :: P, w :: vs, 0, m, nd, h1, h2, hk => by
  simp at h1 h2; subst h1; subst h2
  show bindC kindOf ((p, w) :: P.zip vs) m p = _
  unfold bindC
  rw [rF fun v hv => (List.nodup_cons.mp nd).1 (List.of_mem_zip hv).1, if_neg hk]
  simp
 | p :: P, w :: vs, i + 1, m, nd, h1, h2, hk => by
  show bindC kindOf ((p, w) :: P.zip vs) m x = _
  unfold bindC
  exact rP (i := i) (List.nodup_cons.mp nd).2 (by simpa using h1) (by simpa using h2) hk
def start (N : List Str) (vs : List V) : St := vs.map some ++ List.replicate (N.length - vs.length) none
def gh (CX : CXT) (P : Program) (w : World) (K : PySem.W.Frag) (mg : Str → Option Value) (base : Heap) (N : List Str) (qual : Str) (scope : Scope) (f : Addr) (cd : Value) (A : Around) (outer : List Env) (s : Shared) (H : Hp) (E : XK) : Cx where
 prog := P
 w := w
 K := K
 mg := mg
 base := base
 A := A.deeper (envOfC qual scope s.heap.objs.size f cd)
 N := N
 s₀ := s
 H₀ := H
 env := envOfC qual scope s.heap.objs.size f cd
 outer := outer
 stack := envOfC qual scope s.heap.objs.size f cd :: outer
 ex := []
 calm := true
 fn := fun _ => true
 pn := []
 xe := fun e s' => wpAny (model P w) (A.deeper (envOfC qual scope s.heap.objs.size f cd)) (leaving (envOfC qual scope s.heap.objs.size f cd) e) (fun _ s'' => CX outer H s E e s'') (fun e' s'' => CX outer H s E e' s'') s'
theorem vK {sc : Scope} {n : Nat} {x : Str} (h : sc.names.lookup x = some .cell) : ∃ c, (cellsFrom n sc.names []).lookup x = some c := by
 have q := PySem.W.cellsFrom_some sc.names n [] (.inl h)
 exact Option.isSome_iff_exists.mp q
theorem rC {CX : CXT} {P : Program} {w : World} {K : PySem.W.Frag} {mg : Str → Option Value} {base : Heap} {N ps : List Str} {qual : Str} {scope : Scope} {f : Addr} {cd : Value} {A : Around} {outer : List Env} {s s1 : Shared} {H : Hp} {E : XK} {us : List Value} {vs : List V}
  (S : aF N ps scope) (hd : A.handled = none) (e0 : qR P w K mg base A outer s H) (hl : vs.length = ps.length) (r : Vals vs us)
  (x : InCallC s s.heap.objs.size (bindL (envOfC qual scope s.heap.objs.size f cd).kindOf (ps.zip us) fun _ => none) (cellsFrom (s.heap.objs.size + 1) scope.names []) (bindC (envOfC qual scope s.heap.objs.size f cd).kindOf (ps.zip us) fun _ => none) s1) :
  Inv (gh CX P w K mg base N qual scope f cd A outer s H E) [] (start N vs) H s1 := by
 have hpl : ps.length ≤ N.length := by have := congrArg List.length S.pre; rw [List.length_take] at this; omega
 obtain ⟨h1, tk, rfl, hk⟩ := x.done
 have noA : ∀ b : Addr, b ∉ (gh CX P w K mg base N qual scope f cd A outer s H E).ex := fun b z => absurd (show b ∈ ([] : List Addr) from z) (by simp)
 refine ⟨⟨e0.mod, S.kind, rfl, rfl, Nat.le_refl _, fun y z c h1 h2 => ?_, fun y hy => ?_, fun y c _ h => ?_, fun _ => hd, Around.frames_deeper e0.frames, .inr ⟨rfl, rfl⟩, fun b z => absurd z (noA b), e0.bs, e0.bsz, fun b _ _ => noA b, fun b z => absurd z (noA b), e0.funs, e0.frf⟩,
  rfl, e0.bare, Un.kept hk, ⟨_, x.toInCall.ns, fun i y v h1 h2 h3 => ?_⟩, fun y c h => ⟨_, x.cell y c h⟩, e0.hok.fresh (Nat.le_refl _), fun y c h => ?_, fun p hp => absurd (show p ∈ ([] : List (Addr × Obj)) from hp) (by simp), e0.hok.kept hk, ?_⟩
 ·exact name_of_addr x.apart (PySem.mem_of_lookup h1) (PySem.mem_of_lookup h2)
 ·have hy : scope.names.lookup y = some .cell ∨ scope.names.lookup y = some .free := hy
  rcases hy with hy | hy
  ·exact vK hy
  ·exact absurd rfl (S.nofree _ (PySem.mem_of_lookup hy))
 ·exact Nat.le_of_lt (x.above y c (PySem.mem_of_lookup h))
 ·have hi : i < vs.length := by
   unfold start at h2
   by_cases hi : i < vs.length
   ·exact hi
   ·rw [List.getElem?_append_right (by simpa using hi)] at h2
    rw [List.getElem?_replicate] at h2
    split at h2 <;> cases h2
  have ha : vs[i]? = some v := by
   unfold start at h2
   rw [List.getElem?_append_left (by simpa using hi), List.getElem?_map] at h2
   cases e : vs[i]? with
   | none => rw [e] at h2; cases h2
   | some a => rw [e] at h2; cases h2; rfl
  obtain ⟨u, hu, rv⟩ := r.get ha
  have hp : ps[i]? = some y := by
   rw [← S.pre, List.getElem?_take_of_lt (by omega)]; exact h1
  have ndP : ps.Nodup := by rw [← S.pre]; exact S.nd.sublist (List.take_sublist _ _)
  refine ⟨u, rv, ?_⟩
  rcases S.par y (List.mem_of_getElem? hp) with k | k
  ·exact .inl ⟨k, rH ndP hp hu k⟩
  ·obtain ⟨c, e⟩ := vK (n := s.heap.objs.size + 1) k
   refine .inr ⟨.inl k, c, e, ?_⟩
   have q := x.cell y c e
   rw [rP ndP hp hu (by show scope.names.lookup y ≠ _; rw [k]; decide)] at q
   exact q
 ·exact e0.hok.fresh (Nat.le_of_lt (x.above y c (PySem.mem_of_lookup h)))
 ·unfold start
  show _ = N.length
  rw [List.length_append, List.length_map, List.length_replicate]
  omega
theorem CZ {CX : CXT} {P : Program} {w : World} {K : PySem.W.Frag} {mg : Str → Option Value} {base : Heap} {k : Nat} {f : Addr} {name qual : Str} {params : Arguments} {body : List Stmt} {scope : Scope} {dV kV doc pm cdv ct oc : Value} {an od : Option Addr}
  {osl : Array (Option Value)} {N ps : List Str} {sp : Sp} (lk : K.lookup f = some ⟨oc, od, .func (PySem.W.fnOf name qual params body scope dV kV doc pm an cdv ct), osl⟩) (hcd : PySem.W.codeIn K cdv qual = true) (S : aF N ps scope)
  (len : ∀ vs H Q E, sp vs H Q E → vs.length = ps.length)
  (hbody : ∀ (A : Around) (outer : List Env) (s : Shared) (H : Hp) (vs : List V) (Q : VK) (E : XK), cJ k (A.deeper (envOfC qual scope s.heap.objs.size f cdv)) → sp vs H Q E →
   ∃ t, PSs (gh CX P w K mg base N qual scope f cdv A outer s H E) body t ∧ t { nx := fun _ H' => Q .non H', rt := Q } (start N vs) H) :
  aW P w K mg base CX (k + 1) f (PySem.W.fnOf name qual params body scope dV kV doc pm an cdv ct) ps sp := by
 refine ⟨len, fun A outer s H args us vs Q E hr e0 hb r hsp => ?_⟩
 have hl := len _ _ _ _ hsp
 have KX : K.In s.heap := e0.mod.kin.keeps fun b o e => (e0.bs b o e).1
 have lim : s.heap.NoLimit := e0.mod.nolimit.keeps fun b o e => (e0.bs b o e).1
 have hkind : ∀ y ∈ ps.zip us, scope.names.lookup y.1 = some .local ∨ (scope.names.lookup y.1 = some .cell ∧ ((cellsFrom (s.heap.objs.size + 1) scope.names []).lookup y.1).isSome = true) := fun ⟨n, v⟩ hy => by
  rcases S.par n (List.of_mem_zip hy).1 with q | q
  ·exact .inl q
  ·exact .inr ⟨q, PySem.W.cellsFrom_some _ _ _ (.inl q)⟩
 refine codeAny_call_function hr.depth (KX _ _ lk) rfl S.co S.gen rfl (PySem.W.codeRec_of KX hcd) (hb _ _ _ _ ?_)
 refine wpAny_newFunctionEnv_cells S.kind hkind fun env he s1 x => ?_
 subst he
 refine ⟨lim.keeps x.toInCall.keep, codeAny_func ?_⟩
 obtain ⟨t, ht, hq⟩ := hbody A outer s H vs Q E (hr.deeper _) hsp
 have I : Inv (gh CX P w K mg base N qual scope f cdv A outer s H E) [] (start N vs) H s1 := rC S hr.hd e0 hl r x
 refine wpAny_mono (ht [] s1 (start N vs) H _ I hq) (fun fl s' hs => ?_) fun e s' hs => hs
 have fin : ∀ {σ' : St} {H' : Hp} {v : V} {u : Value}, Inv (gh CX P w K mg base N qual scope f cdv A outer s H E) [] σ' H' s' → RelV v u → Q v H' → CE outer P w H s Q u s' :=
  fun {σ' H' v u} J rv q => ⟨v, H', J.os, J.bare, J.base, J.hok, rv, q⟩
 cases fl with
 | ret u =>
  obtain ⟨v, σ', H', J, rv, q⟩ := hs
  exact fin J rv q
 | next =>
  obtain ⟨σ', H', J, q⟩ := hs
  exact fin (v := V.non) (u := Value.none) J rfl q
 | brk =>
  obtain ⟨_, _, _, q⟩ := hs
  exact False.elim q
 | cont =>
  obtain ⟨_, _, _, q⟩ := hs
  exact False.elim q
end L2
namespace L2
open PySem PySem.Spec PyProof.Rows
section
variable {X : Cx} {x : Str} {p pos : Pos} {e : Expr} {es : List Expr} {t : TA} {id T : String} {r : List V → Hp → VK → Prop}
def tCB (r : List V → Hp → VK → Prop) (t : TA) : TE := fun σ H Q => t σ H fun vs H1 => r vs H1 Q
theorem aV (hc : gB X (.builtin id) r) (hg : Gl X x) (hm : X.mg x = none) (hv : bootBuiltins x = some (.builtin id)) (ha : PA X (e :: es) t) (hn : x ≠ "__name__" := by decide) (hdb : (x == ("__debug__" : Str)) = false := by decide)
  (he : starEach (e :: es) X.env = (false, eval e X.env) :: starEach es X.env := by rfl) (hpl : (backTo pos (starEach es X.env)).any (·.1) = false := by rfl) : PE X (.Call (.Name x p) (e :: es) [] pos) (tCB r t) := by
 intro pins s σ H Q I h
 refine wpAny_Call_Name_kw (dD I hg hm hv ?_ hn hdb)
 exact PyProof.Rows.callWith_builtin1 (thn (ha pos pins s σ H _ I h) fun us s1 ⟨vs, H1, I1, r1, q1⟩ => hc pins s1 σ H1 vs us Q I1 r1 q1) he hpl
theorem gU (hc : gB X (.type T) r) (hg : Gl X x) (hm : X.mg x = none) (hv : bootBuiltins x = some (.type T)) (ha : PA X (e :: es) t) (hn : x ≠ "__name__" := by decide) (hdb : (x == ("__debug__" : Str)) = false := by decide)
  (he : starEach (e :: es) X.env = (false, eval e X.env) :: starEach es X.env := by rfl) (hpl : (backTo pos (starEach es X.env)).any (·.1) = false := by rfl) : PE X (.Call (.Name x p) (e :: es) [] pos) (tCB r t) := by
 intro pins s σ H Q I h
 refine wpAny_Call_Name_kw (dD I hg hm hv ?_ hn hdb)
 exact PyProof.Rows.callWith_type1 (thn (ha pos pins s σ H _ I h) fun us s1 ⟨vs, H1, I1, r1, q1⟩ => hc pins s1 σ H1 vs us Q I1 r1 q1) he hpl
end
end L2
namespace HT
open PySem PyProof.Rows
section
open PySem.SeqAt
open PySem.AutoSeq1 (wpAny_loadPart')
open PySem.MeetsSeq PySem.MeetsSeq2 PySem.MeetsSeq3
end
section
variable {prog : Program} {w : World} {A : Around} {E : Value → Shared → Prop} {s : Shared}
def sIx (n d : Nat) : Option Int → Nat
 | none => d
 | some v => if v < 0 then (v + (n : Int)).toNat else min v.toNat n
theorem u6 (n d : Nat) : sIx n d none = d := rfl
theorem o7 (n d k : Nat) : sIx n d (some (k : Int)) = min k n := by
 show (if (k : Int) < 0 then ((k : Int) + (n : Int)).toNat else min (k : Int).toNat n) = min k n
 rw [if_neg (by omega), Int.toNat_natCast]
end
end HT
namespace L2
open PySem PySem.Spec PyProof.Rows
abbrev TO := St → Hp → (Option Int → Hp → Prop) → Prop
def PO (X : Cx) (e : Option Expr) (t : TO) : Prop :=
 ∀ (pins : List (Addr × Obj)) (s : Shared) (σ : St) (H : Hp) (Q : Option Int → Hp → Prop), Inv X pins σ H s → t σ H Q →
  wpAny (model X.prog X.w) X.A (evalPart e X.env) (fun u s' => ∃ o H', Inv X pins σ H' s' ∧ IsPart u o ∧ Q o H') X.xe s
def Ca : TO := fun _ H Q => Q none H
def FN (t : TE) : TO := fun σ H Q => t σ H fun x H1 => ∃ i, x = .int i ∧ Q (some i) H1
theorem intsAre_of {ns : List Int} : ∀ {us : List Value}, Vals (ns.map V.int) us → IntsAre us ns := by
 induction ns with
 | nil => intro us r; rw [List.map_nil] at r; cases r; exact .nil
 | cons n ns ih =>
  intro us r
  rw [List.map_cons] at r
  cases r with
  | cons r1 r2 =>
   obtain ⟨t, e⟩ := r1
   subst e
   exact .cons n t (ih r2)
section
variable {X : Cx} {e : Expr} {te : TE} {lo hi : Option Expr} {tl th : TO} {pos p2 : Pos}
theorem lD : PO X none Ca := by
 intro pins s σ H Q I h
 rw [evalPart_none]
 exact wpAny_pure ⟨none, H, I, .none, h⟩
theorem iB (h : PE X e te) : PO X (some e) (FN te) := by
 intro pins s σ H Q I hw
 rw [evalPart_some]
 refine thn (h pins s σ H _ I hw) fun u s1 ⟨x, H1, I1, r1, q1⟩ => ?_
 obtain ⟨i, rfl, q⟩ := q1
 obtain ⟨t, rfl⟩ := r1
 exact ⟨some i, H1, I1, .int i t, q⟩
def SlR (X : Cx) (r : V → Option Int → Option Int → Hp → VK → Prop) : Prop :=
 ∀ (pins : List (Addr × Obj)) (s : Shared) (σ : St) (H : Hp) (x : V) (v vl vu : Value) (lo hi : Option Int) (sl : Addr) (Q : VK), Inv X pins σ H s → RelV x v → s.heap.IsSliceOf sl vl vu .none → IsPart vl lo → IsPart vu hi → r x lo hi H Q →
  ∃ T id, typeLookup (.type T) "__getitem__" = pure (some (.builtin id)) ∧ s.TypeIs v T ∧ wpAny (model X.prog X.w) X.A (getItem v (.ref sl)) (EP X pins σ Q) X.xe s
def tSl (r : V → Option Int → Option Int → Hp → VK → Prop) (te : TE) (tl th : TO) : TE := fun σ H Q => te σ H fun x H1 => tl σ H1 fun l H2 => th σ H2 fun u H3 => r x l u H3 Q
theorem ie {r : V → Option Int → Option Int → Hp → VK → Prop} (hr : SlR X r) (he : PE X e te) (hl : PO X lo tl) (hu : PO X hi th) : PE X (.Subscript e (.Slice lo hi none p2) pos) (tSl r te tl th) := by
 intro pins s σ H Q I h
 refine Subscript_ (thn (he pins s σ H _ I h) fun v s1 ⟨x, H1, I1, r1, q1⟩ => ?_)
 refine wpAny_Slice (thn (hl pins s1 σ H1 _ I1 q1) fun vl s2 ⟨l, H2, I2, pl, q2⟩ => thn (hu pins s2 σ H2 _ I2 q2) fun vu s3 ⟨u, H3, I3, pu, q3⟩ => ?_)
 rw [evalPart_none]
 refine wpAny_pure ?_
 have I4 : Inv X pins σ H3 { s3 with heap := s3.heap.push { cls := .type "slice", data := .fields #[vl, vu, .none] } } := I3.kept (t' := s3.toks) fun b ob q => Heap.get?_push_of_some _ q
 obtain ⟨T, id, hT, ht, hg⟩ := hr pins { s3 with heap := s3.heap.push { cls := .type "slice", data := .fields #[vl, vu, .none] } } σ H3 x v vl vu l u s3.heap.objs.size Q I4 r1 (Heap.IsSliceOf.new ..) pl pu q3
 show wpAny (model X.prog X.w) X.A (subscriptTail e (.Slice lo hi none p2) v (.ref s3.heap.objs.size)) (EP X pins σ Q) X.xe { s3 with heap := s3.heap.push { cls := .type "slice", data := .fields #[vl, vu, .none] } }
 exact tail_any (ops := [.ref s3.heap.objs.size, v]) ht hT hg (by with_unfolding_all rfl)
def jX (xs : List V) (lo hi : Option Int) : List V := (xs.drop (HT.sIx xs.length 0 lo)).take (HT.sIx xs.length xs.length hi - HT.sIx xs.length 0 lo)
theorem uT (xs : List V) (lo hi : Option Int) : (jX xs lo hi).length ≤ xs.length := by
 unfold jX
 rw [List.length_take, List.length_drop]
 omega
end
end L2
namespace L2
open PySem PySem.Spec PyProof.Rows
def ixN (n : Nat) (i : Int) : Option Nat := if 0 ≤ i then (if i < n then some i.toNat else none) else if -(n : Int) ≤ i then some (i + n).toNat else none
def atI {α : Type} (xs : List α) (i : Int) : Option α := (ixN xs.length i).bind fun j => xs[j]?
theorem xR {n : Nat} {i : Int} {j : Nat} (h : ixN n i = some j) : seqIndex? i n = some j ∧ j < n ∧ -(n : Int) ≤ i ∧ i < n := by
 unfold ixN at h
 by_cases h0 : 0 ≤ i
 ·rw [if_pos h0] at h
  by_cases h1 : i < n
  ·rw [if_pos h1] at h
   have e : i.toNat = j := Option.some.inj h
   exact ⟨by rw [seqIndex_of h0 h1, e], by omega, by omega, h1⟩
  ·rw [if_neg h1] at h; cases h
 ·rw [if_neg h0] at h
  by_cases h1 : -(n : Int) ≤ i
  ·rw [if_pos h1] at h
   have e : (i + n).toNat = j := Option.some.inj h
   exact ⟨by rw [seqIndex_neg (by omega) h1, e], by omega, h1, by omega⟩
  ·rw [if_neg h1] at h; cases h
theorem xF {α : Type} {xs : List α} {i : Int} {v : α} (h : atI xs i = some v) : ∃ j, seqIndex? i xs.length = some j ∧ xs[j]? = some v ∧ j < xs.length ∧ -(xs.length : Int) ≤ i ∧ i < xs.length := by
 unfold atI at h
 cases e : ixN xs.length i with
 | none => rw [e] at h; cases h
 | some j =>
  rw [e] at h
  obtain ⟨h1, h2, h3, h4⟩ := xR e
  exact ⟨j, h1, h, h2, h3, h4⟩
theorem yc {α : Type} {xs : List α} {j : Nat} {v : α} (h : xs[j]? = some v) : atI xs (j : Int) = some v := by
 have hj : j < xs.length := (List.getElem?_eq_some_iff.mp h).1
 have e : ixN xs.length (j : Int) = some j := by
  unfold ixN
  rw [if_pos (by omega), if_pos (by omega)]; simp
 unfold atI; rw [e]; exact h
theorem pM {α : Type} (xs : List α) (v : α) : atI (xs ++ [v]) (-1) = some v := by
 have hl : (xs ++ [v]).length = xs.length + 1 := by simp
 have e : ixN (xs ++ [v]).length (-1) = some xs.length := by
  unfold ixN
  rw [hl, if_neg (by decide), if_pos (by omega)]
  congr 1
  omega
 unfold atI
 rw [e]
 show (xs ++ [v])[xs.length]? = some v
 simp
def Cg (b : Expr) : Prop := ∀ o i, subscripted b false o i = operate [o, i] (getItem o i)
def IxR (X : Cx) (r : R2) : Prop :=
 ∀ (value slice : Expr) (pins : List (Addr × Obj)) (s : Shared) (σ : St) (H : Hp) (x y : V) (v u : Value) (Q : VK), Inv X pins σ H s → RelV x v → RelV y u → r x y H Q →
  subscripted slice false v u = operate [v, u] (getItem v u) → wpAny (model X.prog X.w) X.A (subscriptTail value slice v u) (EP X pins σ Q) X.xe s
def MtR (X : Cx) (id : String) (r : V → List V → Hp → VK → Prop) : Prop :=
 ∀ (pins : List (Addr × Obj)) (s : Shared) (σ : St) (H : Hp) (x : V) (xs : List V) (v : Value) (us : List Value) (Q : VK), Inv X pins σ H s → RelV x v → Vals xs us → r x xs H Q →
  wpAny (model X.prog X.w) X.A (call (.builtin id) (v :: us)) (EP X pins σ Q) X.xe s
section
variable {X : Cx} {a b : Expr} {ta tb : TE} {pos : Pos}
theorem aR {r : R2} (hr : IxR X r) (ha : PE X a ta) (hb : PE X b tb) (hs : Cg b) : PE X (.Subscript a b pos) (tOp r ta tb) := by
 intro pins s σ H Q I h
 exact Subscript_ (Dh ha hb I h fun v u s2 x y H2 I2 rx ry q => hr a b pins s2 σ H2 x y v u Q I2 rx ry q (hs _ _))
def Bm (K : PySem.W.Frag) : R2 := fun x y H Q => ∃ p xs i v, x = .ref p ∧ y = .int i ∧ SqL K H p xs ∧ atI xs i = some v ∧ Q v H
def Dy (K : PySem.W.Frag) : R2 := fun x y H Q => ∃ p xs i v, x = .ref p ∧ y = .int i ∧ SqT K H p xs ∧ atI xs i = some v ∧ Q v H
theorem aX : IxR X (Bm X.K) := by
 intro value slice pins s σ H x y v u Q I rx ry h hs
 obtain ⟨p, xs, i, z, rfl, rfl, hq, he, q⟩ := h
 cases rx
 obtain ⟨t, rfl⟩ := ry
 obtain ⟨its, r, pl, hz⟩ := I.list hq
 obtain ⟨j, h1, h2, h3, h4, h5⟩ := xF he
 obtain ⟨w, ew, rw'⟩ := r.get h2
 have hl := r.length
 have hn := tV
 have fin : EP X pins σ Q w s := ⟨z, H, I, rw', q⟩
 by_cases h0 : 0 ≤ i
 ·have hj : i.toNat = j := by
   rw [seqIndex_of h0 h5] at h1
   exact Option.some.inj h1
  exact item_listR pl.isList h0 (by omega) (by rw [hj]; simpa using ew) fin hs
 ·have hj : (i + (its.toArray.size : Int)).toNat = j := by
   rw [seqIndex_neg (by omega) h4] at h1
   rw [List.size_toArray, ← hl]
   exact Option.some.inj h1
  exact subscriptTail_builtinR (x := w) pl.isList.typeIs slot_list_getitem.lookup
   (wpAny_getItem_list_neg (Q := fun r s' => r = w ∧ EP X pins σ Q r s') pl.isList (by omega) (by rw [List.size_toArray] <;> omega) (by omega) (by rw [hj]; simpa using ew) ⟨rfl, fin⟩) hs
theorem bA : IxR X (Dy X.K) := by
 intro value slice pins s σ H x y v u Q I rx ry h hs
 obtain ⟨p, xs, i, z, rfl, rfl, hq, he, q⟩ := h
 cases rx
 obtain ⟨t, rfl⟩ := ry
 obtain ⟨its, r, pl, hz⟩ := I.tuple hq
 obtain ⟨j, h1, h2, h3, h4, h5⟩ := xF he
 obtain ⟨w, ew, rw'⟩ := r.get h2
 have hl := r.length
 have hn := tV
 have fin : EP X pins σ Q w s := ⟨z, H, I, rw', q⟩
 exact subscriptTail_builtinR (x := w) pl.typeIs slot_tuple_getitem.lookup
  (getItem_tuple (j := j) (Q := fun r s' => r = w ∧ EP X pins σ Q r s') pl (by omega) (by omega) (by rw [List.size_toArray, ← hl]; exact h1) (by simpa using ew) ⟨rfl, fin⟩) hs
theorem xq (its : List Value) (n j : Nat) (u : Value) : Obj.mapSeq (·.setIfInBounds j u) { cls := .type "list", data := .seq its.toArray n } = { cls := .type "list", data := .seq (its.set j u).toArray n } := by
 simp [Obj.mapSeq]
theorem Inv.lst {pins : List (Addr × Obj)} {σ : St} {H : Hp} {s : Shared} {p : Addr} {xs : List V} (I : Inv X pins σ H s) (h : H p = some (.lst xs)) :
  ∃ (its : List Value) (n : Nat), Vals xs its ∧ s.heap.get? p = some { cls := .type "list", data := .seq its.toArray n } ∧ xs.length ≤ sizeLine := by
 obtain ⟨z, its, n, r, e⟩ := I.hok p _ h
 exact ⟨its, n, r, e, z⟩
theorem Inv.lstUpd {pins : List (Addr × Obj)} {σ : St} {H : Hp} {s : Shared} {p : Addr} {xs ys : List V} {its its' : List Value} {n n' : Nat} {f : Obj → Obj} (I : Inv X pins σ H s) (h : H p = some (.lst xs))
  (ho : s.heap.get? p = some { cls := .type "list", data := .seq its.toArray n }) (hf : f { cls := .type "list", data := .seq its.toArray n } = { cls := .type "list", data := .seq its'.toArray n' }) (r : Vals ys its') (hz : ys.length ≤ sizeLine) (t : Nat) :
  Inv X pins σ (upd H p (.lst ys)) { s with heap := s.heap.update p f, toks := t } := by
 have e : (s.heap.update p f).get? p = some { cls := .type "list", data := .seq its'.toArray n' } := by
  rw [Heap.get?_update_self f ho (by rw [hf] <;> rfl), hf]
 refine I.write (x := p) (e := p) (by rw [h]; trivial) (.inl rfl) (fun b u hb q => (Heap.get?_update_other _ _ (Ne.symm hb)).trans q) ⟨_, e⟩ ?_
 exact ⟨hz, its', n', r, e⟩
def Fb : V → V → V → Hp → (Hp → Prop) → Prop := fun o i v H Q => ∃ p xs k j, o = .ref p ∧ i = .int k ∧ H p = some (.lst xs) ∧ ixN xs.length k = some j ∧ Q (upd H p (.lst (xs.set j v)))
theorem set_list : Ex X Fb := by
 intro pins s σ H o i v ov iv u Q I ro ri rv h
 obtain ⟨p, xs, k, j, rfl, rfl, hp, hj, q⟩ := h
 cases ro
 obtain ⟨t, rfl⟩ := ri
 obtain ⟨its, n, r, ho, hz⟩ := I.lst hp
 obtain ⟨h1, h2, h3, h4⟩ := xR hj
 have hl := r.length
 have hn := tV
 have I' : Inv X pins σ (upd H p (.lst (xs.set j v))) { s with heap := s.heap.update p (Obj.mapSeq (·.setIfInBounds j u)) } :=
  I.lstUpd hp ho (xq its n j u) (r.set rv j) (by rw [List.length_set]; exact hz) s.toks
 by_cases h0 : 0 ≤ k
 ·have hk : k.toNat = j := by
   rw [seqIndex_of h0 h4] at h1
   exact Option.some.inj h1
  exact PySem.W.ki_setAt ho h0 (by omega) (by rw [List.size_toArray, ← hl]; exact h4) (by rw [hk]; exact ⟨_, I', q⟩)
 ·have hk : (k + (its.toArray.size : Int)).toNat = j := by
   rw [seqIndex_neg (by omega) h3] at h1
   rw [List.size_toArray, ← hl]
   exact Option.some.inj h1
  exact PySem.W.ki_setBack ho (by omega) (by rw [List.size_toArray, ← hl]; exact h3) (by omega) (by rw [hk]; exact ⟨_, I', q⟩)
theorem tR (lo hi : Option Int) (n : Nat) : (sliceBounds lo hi none n).1 = ((HT.sIx n 0 lo : Nat) : Int) ∧ (sliceBounds lo hi none n).2.1 = ((HT.sIx n n hi : Nat) : Int) ∧ (sliceBounds lo hi none n).2.2 = 1 := by
 refine ⟨?_, ?_, rfl⟩
 ·cases lo with
  | none => simp [sliceBounds, HT.sIx]
  | some i =>
   simp only [sliceBounds, HT.sIx, Option.getD_none, show (1 : Int) > 0 by decide, if_true]
   by_cases h : i < 0
   ·simp only [h, if_true] <;> omega
   ·simp only [h, if_false] <;> omega
 ·cases hi with
  | none => simp [sliceBounds, HT.sIx]
  | some i =>
   simp only [sliceBounds, HT.sIx, Option.getD_none, show (1 : Int) > 0 by decide, if_true]
   by_cases h : i < 0
   ·simp only [h, if_true] <;> omega
   ·simp only [h, if_false] <;> omega
theorem qQ (its : List Value) (lo hi : Option Int) : slicePick its.toArray lo hi none = ((its.drop (HT.sIx its.length 0 lo)).take (HT.sIx its.length its.length hi - HT.sIx its.length 0 lo)).toArray := by
 obtain ⟨h1, h2, h3⟩ := tR lo hi its.toArray.size
 unfold slicePick
 rw [h1, h2, h3]
 simp only [sliceRange_one, pick_run, List.size_toArray] <;> rfl
def Ff (K : PySem.W.Frag) : V → Option Int → Option Int → Hp → VK → Prop := fun x lo hi H Q => ∃ a xs, x = .ref a ∧ SqL K H a xs ∧ ∀ p, H p = none → Q (.ref p) (upd H p (.lst (jX xs lo hi)))
theorem jQ : SlR X (Ff X.K) := by
 intro pins s σ H x v vl vu lo hi sl Q I rx hs pl pu h
 obtain ⟨a, xs, rfl, hx, q⟩ := h
 cases rx
 obtain ⟨its, r, ht, hz⟩ := I.list hx
 have hlen := r.length
 refine ⟨"list", _, slot_list_getitem.lookup, ht.isList.typeIs, ?_⟩
 refine wpAny_getItem_list_slice ht.isList hs pl pu .none (by simp) ?_ (by rw [List.size_toArray] <;> omega)
 rw [qQ, ← hlen]
 refine ⟨.ref s.heap.objs.size, _, I.laid (t' := s.toks) (o := .lst (jX xs lo hi)) (fun b ob q => Heap.get?_push_of_some _ q) (Nat.le_refl _) ?_, rfl, q _ (I.hok.fresh (Nat.le_refl _))⟩
 exact ⟨Nat.le_trans (uT xs lo hi) hz, _, 0, (r.drop (HT.sIx xs.length 0 lo)).take (HT.sIx xs.length xs.length hi - HT.sIx xs.length 0 lo), Heap.get?_push_size _ rfl⟩
theorem aP : gB X (.builtin "len") (fun xs H Q => ∃ p ys, xs = [.ref p] ∧ (SqL X.K H p ys ∨ SqT X.K H p ys) ∧ Q (.int ys.length) H) := by
 intro pins s σ H xs us Q I r h
 obtain ⟨p, ys, rfl, hq, q⟩ := h
 obtain ⟨u, rfl, rx⟩ := vals1 r
 cases rx
 have hn := tV
 rcases hq with hq | hq
 ·obtain ⟨its, r', pl, hz⟩ := I.list hq
  have hlen := r'.length
  exact Calls.call_len_list pl.isList (by simp only [List.size_toArray] <;> omega) ⟨.int ys.length, H, I.tok _, ⟨s.toks + 1, by rw [List.size_toArray, hlen]⟩, q⟩
 ·obtain ⟨its, r', pl, hz⟩ := I.tuple hq
  have hlen := r'.length
  exact len_tuple pl (by simp only [List.size_toArray] <;> omega) ⟨.int ys.length, H, I.tok _, ⟨s.toks + 1, by rw [List.size_toArray, hlen]⟩, q⟩
theorem iI : gB X (.type "list") (fun xs H Q => ∃ p ys, xs = [.ref p] ∧ (SqL X.K H p ys ∨ SqT X.K H p ys) ∧ ∀ l, H l = none → Q (.ref l) (upd H l (.lst ys))) := by
 intro pins s σ H xs us Q I r h
 obtain ⟨p, ys, rfl, hq, q⟩ := h
 obtain ⟨u, rfl, rx⟩ := vals1 r
 cases rx
 have fin : ∀ (its : List Value), Vals ys its → ys.length ≤ sizeLine → ∀ (h' : Heap) (c' : Nat), (∀ b o', s.heap.get? b = some o' → h'.get? b = some o') →
   h'.get? s.heap.objs.size = some { cls := .type "list", dict := none, data := .seq its.toArray c', slots := #[] } → EP X pins σ Q (.ref s.heap.objs.size) { s with heap := h' } := fun its r' hz h' c' kp e =>
  ⟨.ref s.heap.objs.size, _, I.laid (t' := s.toks) kp (Nat.le_refl _) (show cj X.prog X.w _ h' _ (.lst ys) from ⟨hz, its, c', r', e⟩), rfl, q _ (I.hok.fresh (Nat.le_refl _))⟩
 rcases hq with hq | hq
 ·obtain ⟨its, r', pl, hz⟩ := I.list hq
  have hlen := r'.length
  obtain ⟨o, ho, hc, n, hd⟩ := pl.isList
  exact call_list_seq p (.inl rfl) ho hc hd (fun h' c' kp e => fin its r' hz h' c' kp e) (by simp only [List.size_toArray] <;> omega)
 ·obtain ⟨its, r', pl, hz⟩ := I.tuple hq
  have hlen := r'.length
  obtain ⟨o, ho, hc, n, hd⟩ := pl
  exact call_list_seq p (.inr rfl) ho hc hd (fun h' c' kp e => fin its r' hz h' c' kp e) (by simp only [List.size_toArray] <;> omega)
theorem jZ : gB X (.type "tuple") (fun xs H Q => ∃ p ys, xs = [.ref p] ∧ ((SqL X.K H p ys ∧ ∀ l, H l = none → Q (.ref l) (upd H l (.tup ys))) ∨ (SqT X.K H p ys ∧ Q (.ref p) H))) := by
 intro pins s σ H xs us Q I r h
 obtain ⟨p, ys, rfl, h⟩ := h
 obtain ⟨u, rfl, rx⟩ := vals1 r
 cases rx
 rcases h with ⟨hq, q⟩ | ⟨hq, q⟩
 ·obtain ⟨its, r', pl, hz⟩ := I.list hq
  have hlen := r'.length
  refine call_tuple_list pl.isList (fun h' kp => ?_) (by simp only [List.size_toArray] <;> omega)
  have I1 : Inv X pins σ H { s with heap := h' } := I.kept (t' := s.toks) kp
  have I2 : Inv X pins σ (upd H h'.objs.size (.tup ys)) { s with heap := h'.push { cls := .type "tuple", data := .seq its.toArray } } :=
   I1.laid (t' := s.toks) (fun b o e => Heap.get?_push_of_some _ e) (Nat.le_refl _) (show cj X.prog X.w _ _ _ (.tup ys) from ⟨hz, its, r', IsTup.new _ _⟩)
  exact ⟨.ref h'.objs.size, _, I2, rfl, q _ (I1.hok.fresh (Nat.le_refl _))⟩
 ·obtain ⟨its, r', pl, hz⟩ := I.tuple hq
  exact call_tuple_same pl ⟨.ref p, H, I, rfl, q⟩
def tyV (K : PySem.W.Frag) (T : String) (x : V) (H : Hp) : Prop := match x with
 | .str _ => T = "str"
 | .int _ => T = "int"
 | .ref p => (T = "list" ∧ ∃ xs, SqL K H p xs) ∨ (T = "tuple" ∧ ∃ o, K.lookup p = some o ∧ o.cls = .type "tuple" ∧ o.dict = none) ∨
   (T = "dict" ∧ ((∃ kvs, H p = some (.dK kvs)) ∨ ∃ kvs, H p = some (.dT kvs))) ∨ (T = "set" ∧ ∃ S n, H p = some (.set S n))
 | _ => False
theorem Af {pins : List (Addr × Obj)} {σ : St} {H : Hp} {s : Shared} {T : String} {x : V} {v : Value} (I : Inv X pins σ H s) (r : RelV x v) (ty : tyV X.K T x H) :
  s.TypeIs v T ∧ ∀ a, v = .ref a → ∃ ob, s.heap.get? a = some ob ∧ ob.dict = none := by
 cases x with
 | str z =>
  obtain ⟨t, rfl⟩ := r
  cases (show T = "str" from ty)
  exact ⟨typeIs_str s z t, fun _ e => nomatch e⟩
 | int i =>
  obtain ⟨t, rfl⟩ := r
  cases (show T = "int" from ty)
  exact ⟨typeIs_int s i t, fun _ e => nomatch e⟩
 | ref p =>
  cases r
  rcases ty with ⟨rfl, xs, hq⟩ | ⟨rfl, o, hk, hc, hd⟩ | ⟨rfl, hk⟩ | ⟨rfl, S, n, hk⟩
  ·obtain ⟨its, _, pl, _⟩ := I.list hq
   refine ⟨pl.isList.typeIs, fun a e => ?_⟩
   cases e
   obtain ⟨o, n, e, c, hd, _⟩ := pl
   exact ⟨o, e, hd⟩
  ·refine ⟨⟨o, I.kIn p o hk, hc⟩, fun a e => ?_⟩
   cases e
   exact ⟨o, I.kIn _ o hk, hd⟩
  ·have z : ∃ o, s.heap.get? p = some o ∧ o.ExactDict := by
    rcases hk with ⟨kvs, hk⟩ | ⟨kvs, hk⟩
    ·obtain ⟨_, _, _, _, o, _, _, e, ex, _⟩ := I.hok p _ hk
     exact ⟨o, e, ex⟩
    ·obtain ⟨_, _, _, _, o, _, _, e, ex, _⟩ := I.hok p _ hk
     exact ⟨o, e, ex⟩
   obtain ⟨o, e, ex⟩ := z
   refine ⟨⟨o, e, ex.1⟩, fun a e2 => ?_⟩
   cases e2
   exact ⟨o, e, ex.2.1⟩
  ·obtain ⟨o, _, _, _, e, ex, _⟩ := I.hok p _ hk
   refine ⟨⟨o, e, ex.1⟩, fun a e2 => ?_⟩
   cases e2
   exact ⟨o, e, ex.2.1⟩
 | _ => exact False.elim ty
def FQ (K : PySem.W.Frag) (T : String) (r : V → List V → Hp → VK → Prop) (to : TE) : TE := fun σ H Q => to σ H fun x H1 => tyV K T x H1 ∧ r x [] H1 Q
def tBM (K : PySem.W.Frag) (T : String) (r : V → List V → Hp → VK → Prop) (to : TE) (t : TA) : TE := fun σ H Q => to σ H fun x H1 => tyV K T x H1 ∧ t σ H1 fun xs H2 => r x xs H2 Q
variable {o e : Expr} {es : List Expr} {to : TE} {t : TA} {name : Str} {apos cpos : Pos} {T id : String} {r : V → List V → Hp → VK → Prop}
theorem zZ (pa : PlainAttrs T) (slot : Slot T name id) (hty : typeOf (.builtin id) = pure (.type "method_descriptor")) (hm : MtR X id r) (ho : PE X o to)
  (hbase : attributeBase o name X.env (eval o X.env) = eval o X.env := by rfl) (hline : (apos.endLine == cpos.line) = true := by rfl) : PE X (.Call (.Attribute o name apos) [] [] cpos) (FQ X.K T r to) := by
 intro pins s σ H Q I h
 refine wpAny_Call_method0_late hbase hline (thn (ho pins s σ H _ I h) fun v s1 ⟨x, H1, I1, r1, ty, q1⟩ => ?_)
 obtain ⟨h1, h2⟩ := Af I1 r1 ty
 exact ⟨T, id, pa, slot, hty, h1, h2, Calls.callWith_builtin rfl (PySem.evalArgs_none (hm pins s1 σ H1 x [] v [] Q I1 r1 .nil q1))⟩
theorem fO (pa : PlainAttrs T) (slot : Slot T name id) (hty : typeOf (.builtin id) = pure (.type "method_descriptor")) (hm : MtR X id r) (ho : PE X o to) (ha : PA X (e :: es) t)
  (hbase : attributeBase o name X.env (eval o X.env) = eval o X.env := by rfl)
  (hfew : ((backTo cpos (starEach (e :: es) X.env)).all (fun x => !x.1) && (backToKw cpos (keywordEach [] X.env)).all (fun x => x.1.isSome)
   && decide ((e :: es).length + ([] : List Keyword).length + (if ([] : List Keyword).isEmpty then 0 else 1) < 30)) = true := by rfl)
  (hline : (apos.endLine == cpos.line) = true := by rfl) (hs : starEach (e :: es) X.env = (false, eval e X.env) :: starEach es X.env := by rfl) (hplain : (backTo cpos (starEach es X.env)).any (·.1) = false := by rfl) :
  PE X (.Call (.Attribute o name apos) (e :: es) [] cpos) (tBM X.K T r to t) := by
 intro pins s σ H Q I h
 refine wpAny_Call_method_late hbase hfew hline rfl (thn (ho pins s σ H _ I h) fun v s1 ⟨x, H1, I1, r1, ty, q1⟩ => ?_)
 obtain ⟨h1, h2⟩ := Af I1 r1 ty
 refine ⟨T, id, pa, slot, hty, h1, h2, ?_⟩
 have hA := ha cpos pins s1 σ H1 _ I1 q1
 rw [hs] at hA ⊢
 refine Calls.callWith_builtin (by show (false || (backTo cpos (starEach es X.env)).any (·.1)) = false; rw [hplain] <;> rfl) (Calls.evalArgs_plain ?_)
 exact thn hA fun us s2 ⟨vs, H2, I2, r2, q2⟩ => hm pins s2 σ H2 x vs v us Q I2 r1 r2 q2
/- xs.append(e), list.index on a module's tuple .. are MtR facts of 06m -/
end
end L2
namespace L2
open PySem PySem.Spec PyProof.Rows
def MtM (X : Cx) (id : String) (r : V → List V → Hp → VK → Prop) : Prop :=
 ∀ (pins : List (Addr × Obj)) (s : Shared) (σ : St) (H : Hp) (x : V) (xs : List V) (v : Value) (us : List Value) (Q : VK), Inv X pins σ H s → RelV x v → Vals xs us → r x xs H Q →
  wpAny (model X.prog X.w) X.A (call (.builtin id) (v :: us)) (EP X pins σ Q) X.xe s
theorem Vals.one : ∀ {x : V} {us : List Value}, Vals [x] us → ∃ u, us = [u] ∧ RelV x u
 | _, _, .cons r .nil => ⟨_, rfl, r⟩
theorem Vals.zero : ∀ {us : List Value}, Vals [] us → us = []
 | _, .nil => rfl
theorem Vals.dropLast {xs : List V} {us : List Value} (h : Vals xs us) : Vals xs.dropLast us.dropLast := by
 induction h with
 | nil => exact .nil
 | cons r t ih =>
  cases t with
  | nil => exact .nil
  | cons q t' => exact .cons r ih
theorem Vals.reverse {xs : List V} {us : List Value} (h : Vals xs us) : Vals xs.reverse us.reverse := by
 induction h with
 | nil => exact .nil
 | cons r t ih => rw [List.reverse_cons, List.reverse_cons]; exact Vals.append ih (.cons r .nil)
theorem Vals.rep {xs : List V} {us : List Value} (h : Vals xs us) : ∀ k : Nat, Vals (List.replicate k xs).flatten (List.replicate k us).flatten
 | 0 => .nil
 | k + 1 => by
  rw [List.replicate_succ, List.replicate_succ, List.flatten_cons, List.flatten_cons]
  exact Vals.append h (Vals.rep h k)
theorem vW {α : Type} (l : List α) : l.eraseIdx (l.length - 1) = l.dropLast := by
 induction l with
 | nil => rfl
 | cons a r ih =>
  cases r with
  | nil => rfl
  | cons b r =>
   have e : (a :: b :: r).length - 1 = ((b :: r).length - 1) + 1 := by
    have h1 : (a :: b :: r).length = r.length + 2 := rfl
    have h2 : (b :: r).length = r.length + 1 := rfl
    omega
   rw [e, List.eraseIdx_cons_succ, ih]
   all_goals rfl
theorem foldl_rep (its : List Value) : ∀ (k : Nat) (acc : List Value),
  List.foldl (fun x1 x2 => x1 ++ x2) acc.toArray (List.replicate k its.toArray) = (acc ++ (List.replicate k its).flatten).toArray
 | 0, acc => by simp
 | k + 1, acc => by
  have e : acc.toArray ++ its.toArray = (acc ++ its).toArray := by simp
  have e2 : (acc ++ its) ++ (List.replicate k its).flatten = acc ++ (List.replicate (k + 1) its).flatten := by
   rw [List.replicate_succ, List.flatten_cons, List.append_assoc]
  rw [← e2, ← foldl_rep its k (acc ++ its), ← e, List.replicate_succ, List.foldl_cons]
section
variable {X : Cx} {pins : List (Addr × Obj)} {σ : St} {H : Hp} {s : Shared} {l b : Addr} {xs ys zs : List V}
theorem Inv.lset {its its' : List Value} {n : Nat} {f : Array Value → Array Value} {t' : Nat} (I : Inv X pins σ H s) (hH : H l = some (.lst xs))
  (e : s.heap.get? l = some { cls := .type "list", data := .seq its.toArray n }) (hf : f its.toArray = its'.toArray) (hv : Vals ys its') (hz : ys.length ≤ sizeLine) :
  Inv X pins σ (upd H l (.lst ys)) { s with heap := s.heap.update l (Obj.mapSeq f), toks := t' } := by
 have q := PySem.IsL.update e f
 rw [hf] at q
 refine I.write (x := l) (e := l) (by rw [hH]; exact trivial) (.inl rfl) (fun b' u hb hu => (Heap.get?_update_other s.heap (Obj.mapSeq f) (Ne.symm hb)).trans hu) ⟨_, q⟩ ?_
 exact ⟨hz, its', _, hv, q⟩
theorem Inv.lnew {its : List Value} {t' : Nat} (I : Inv X pins σ H s) (hv : Vals ys its) (hz : ys.length ≤ sizeLine) :
  Inv X pins σ (upd H s.heap.objs.size (.lst ys)) { s with heap := s.heap.push { cls := .type "list", data := .seq its.toArray }, toks := t' } :=
 I.laid (fun _ _ q => Heap.get?_push_of_some _ q) (Nat.le_refl _) ⟨hz, its, 0, hv, Heap.get?_push_size _ rfl⟩
theorem Inv.fresh (I : Inv X pins σ H s) : H s.heap.objs.size = none := I.hok.fresh (Nat.le_refl _)
theorem Inv.lstM (I : Inv X pins σ H s) (hH : H l = some (.lst xs)) : xs.length ≤ sizeLine ∧ ∃ (its : List Value) (n : Nat), Vals xs its ∧ xs.length = its.length ∧ s.heap.get? l = some { cls := .type "list", data := .seq its.toArray n } := by
 obtain ⟨z, its, n, r, e⟩ := I.hok l _ hH
 exact ⟨z, its, n, r, r.length, e⟩
theorem uy {n : Nat} (h : n ≤ sizeLine) : Builtin.List.listTooLong n = false := by
 unfold Builtin.List.listTooLong
 exact decide_eq_false (by omega)
end
section
variable {X : Cx}
def Ci : V → List V → Hp → VK → Prop := fun x vs H Q => ∃ l xs y, x = .ref l ∧ vs = [y] ∧ H l = some (.lst xs) ∧ xs.length < sizeLine ∧ Q .non (upd H l (.lst (xs ++ [y])))
theorem bV : MtM X "list.append" Ci := by
 intro pins s σ H x vs v us Q I rx rv h
 obtain ⟨l, xs, y, rfl, rfl, hH, hz, q⟩ := h
 cases rx
 obtain ⟨u, rfl, ru⟩ := rv.one
 obtain ⟨z, its, n, r, hl, e⟩ := I.lstM hH
 refine call_meets F.slot_list_append ⟨_, e, rfl⟩ F.entry_list_append (F.args_list_append_2 _ _) (PySem.list_append l its.toArray n u (by rw [List.size_toArray]; omega)) ⟨e, ?_⟩
 refine ⟨.non, _, I.lset (its' := its ++ [u]) hH e (by simp) (r.append (.cons ru .nil)) ?_, rfl, q⟩
 rw [List.length_append, List.length_singleton]
 omega
def BW : V → List V → Hp → VK → Prop := fun x vs H Q => ∃ l b xs zs, x = .ref l ∧ vs = [.ref b] ∧ H l = some (.lst xs) ∧ H b = some (.lst zs) ∧ xs.length + zs.length ≤ sizeLine ∧ Q .non (upd H l (.lst (xs ++ zs)))
theorem yG : MtM X "list.extend" BW := by
 intro pins s σ H x vs v us Q I rx rv h
 obtain ⟨l, b, xs, zs, rfl, rfl, hH, hB, hz, q⟩ := h
 cases rx
 obtain ⟨u, rfl, ru⟩ := rv.one
 cases ru
 obtain ⟨z, its, n, r, hl, e⟩ := I.lstM hH
 obtain ⟨z2, its2, n2, r2, hl2, e2⟩ := I.lstM hB
 have hsz : its.toArray.size + its2.toArray.size ≤ sizeLine := by rw [List.size_toArray, List.size_toArray]; omega
 have hlong : ¬ (!its.toArray.isEmpty && Builtin.List.listTooLong (its.toArray.size + its2.toArray.size)) = true := by
  rw [uy hsz, Bool.and_false]
  exact Bool.false_ne_true
 refine call_meets F.slot_list_extend ⟨_, e, rfl⟩ F.entry_list_extend (F.args_list_extend_2 _ _)
  (AutoSeq1.list_extend_list_list_0 l its.toArray n b its2.toArray n2 hlong (by rw [List.size_toArray]; omega) (by omega)) ⟨e, e2, ?_⟩
 refine ⟨.non, _, I.lset (its' := its ++ its2) hH e (by simp) (r.append r2) ?_, rfl, q⟩
 rw [List.length_append]
 omega
def Gn : V → List V → Hp → VK → Prop := fun x vs H Q => ∃ l xs y, x = .ref l ∧ vs = [] ∧ H l = some (.lst xs) ∧ xs[xs.length - 1]? = some y ∧ Q y (upd H l (.lst xs.dropLast))
theorem Bb : MtM X "list.pop" Gn := by
 intro pins s σ H x vs v us Q I rx rv h
 obtain ⟨l, xs, y, rfl, rfl, hH, hy, q⟩ := h
 cases rx
 have hus := rv.zero
 subst hus
 obtain ⟨z, its, n, r, hl, e⟩ := I.lstM hH
 obtain ⟨u, hu, ru⟩ := r.get hy
 have hy' : its.toArray[its.toArray.size - 1]? = some u := by
  show its.toArray[its.length - 1]? = some u
  rw [← Array.getElem?_toList, ← hl]
  exact hu
 refine call_meets F.slot_list_pop ⟨_, e, rfl⟩ F.entry_list_pop (F.args_list_pop_1 _) (MeetsSeq.list_pop_last l its.toArray n u hy' (by rw [List.size_toArray]; omega)) ⟨e, ?_⟩
 refine ⟨y, _, I.lset (its' := its.dropLast) hH e ?_ r.dropLast ?_, ru, q⟩
 ·show its.toArray.eraseIdxIfInBounds (its.toArray.size - 1) = its.dropLast.toArray
  rw [List.size_toArray, List.eraseIdxIfInBounds_toArray, vW]
 ·rw [List.length_dropLast]
  omega
def Gk : R2 := fun x y H Q => ∃ l b xs zs, x = .ref l ∧ y = .ref b ∧ H l = some (.lst xs) ∧ H b = some (.lst zs) ∧ xs.length + zs.length ≤ sizeLine ∧ ∀ p, H p = none → Q (.ref p) (upd H p (.lst (xs ++ zs)))
theorem tW : OpR X (binaryOp .Add) Gk := by
 intro pins s σ H x y v u Q I rx ry h
 obtain ⟨l, b, xs, zs, rfl, rfl, hH, hB, hz, q⟩ := h
 cases rx
 cases ry
 obtain ⟨z, its, n, r, hl, e⟩ := I.lstM hH
 obtain ⟨z2, its2, n2, r2, hl2, e2⟩ := I.lstM hB
 refine PySem.P.add_list e e2 ?_ (by rw [List.size_toArray, List.size_toArray]; omega)
 have ea : its.toArray ++ its2.toArray = (its ++ its2).toArray := by simp
 rw [ea]
 exact ⟨.ref _, _, I.lnew (t' := s.toks) (r.append r2) (by rw [List.length_append]; omega), rfl, q _ I.fresh⟩
def Fx : R2 := fun x y H Q => ∃ l k xs, x = .ref l ∧ y = .int k ∧ H l = some (.lst xs) ∧ -(2 ^ 63) ≤ k ∧ k < 2 ^ 63 ∧ xs.length * k.toNat ≤ sizeLine ∧
 ∀ p, H p = none → Q (.ref p) (upd H p (.lst (List.replicate k.toNat xs).flatten))
theorem len_rep {α : Type} (xs : List α) (k : Nat) : (List.replicate k xs).flatten.length = k * xs.length := by
 induction k with
 | zero => simp
 | succ k ih => rw [List.replicate_succ, List.flatten_cons, List.length_append, ih, Nat.succ_mul, Nat.add_comm]
theorem sZ : OpR X (binaryOp .Mult) Fx := by
 intro pins s σ H x y v u Q I rx ry h
 obtain ⟨l, k, xs, rfl, rfl, hH, h1, h2, hz, q⟩ := h
 cases rx
 obtain ⟨t, rfl⟩ := ry
 obtain ⟨z, its, n, r, hl, e⟩ := I.lstM hH
 have hlen : its.toArray.size * k.toNat ≤ sizeLine := by rw [List.size_toArray, ← hl]; exact hz
 have hcap : ¬ its.toArray.size * k.toNat > (2 ^ 63 - 1) / 8 := by
  have : (sizeLine : Nat) ≤ (2 ^ 63 - 1) / 8 := by decide
  omega
 have hfit : ¬ (!Builtin.List.listFitsIndex k) = true := by
  rw [fitsIndex_both h1 h2]
  exact Bool.false_ne_true
 have hlong : ¬ Builtin.List.listTooLong (its.toArray.size * k.toNat) = true := by
  rw [uy hlen]
  exact Bool.false_ne_true
 have hnew : List.foldl (fun x1 x2 => x1 ++ x2) #[] (List.replicate (if its.toArray.isEmpty = true then 0 else k.toNat) its.toArray) = (List.replicate k.toNat its).flatten.toArray := by
  have f0 : ∀ m : Nat, List.foldl (fun x1 x2 => x1 ++ x2) #[] (List.replicate m its.toArray) = (List.replicate m its).flatten.toArray := fun m => by
   have := foldl_rep its m []
   rw [List.nil_append] at this
   exact this
  rw [f0]
  cases its with
  | nil => simp
  | cons a r' => rw [if_neg (by simp)]
 refine wpAny_binaryOp_repeat_ref (T := "list") (U := "int") (by decide) ⟨_, e, rfl⟩ (fun s' => typeIs_int s' k t) noFill_list_mul F.fills_int_mul F.slot_int_rmul repeat_list F.slot_int_index.lookup
  (call_meets F.slot_int_rmul (typeIs_int s k t) F.entry_int_rmul (F.args_int_rmul_2 _ _) (int___rmul___int_list k t l its.toArray n)
   ⟨e, rfl, ⟨_, e, rfl⟩, call_meets F.slot_list_mul ⟨_, e, rfl⟩ F.entry_list_mul (F.args_list_mul_2 _ _) (AutoListH.list___mul___list_int_3 l its.toArray n k t hfit hcap hlong) ⟨e, ?_⟩⟩)
 rw [hnew]
 exact ⟨.ref _, _, I.lnew (t' := s.toks) (r.rep k.toNat) (by rw [len_rep, Nat.mul_comm]; exact hz), rfl, q _ I.fresh⟩
end
section
variable {prog : Program} {w : World} {A : Around} {E : Value → Shared → Prop} {s : Shared}
end
section
variable {X : Cx}
end
end L2
namespace Att
open PySem PySem.W PySem.Calls PyProof.Rows
theorem oY {P : Params} {h : Heap} : ∀ (ns : List Int) (vs : List Value), WellAll P h vs (ns.map WData.int) → IntsAre vs ns := by
 intro ns
 induction ns with
 | nil =>
  intro vs w
  rw [List.map_nil] at w
  cases w
  exact .nil
 | cons n ns ih =>
  intro vs w
  rw [List.map_cons] at w
  cases w with
  | cons a b =>
   cases a
   exact .cons _ _ (ih _ b)
theorem zm {l : OpenLaw} {n : Nat} (hn : l.most = some n) {P : Params} {h : Heap} {args : List WData} {vals : List Value}
  (hpre : l.row.toRowW.claim.pre args = true) (hwl : WellAll P h vals args) :
  ∃ a vs ns, vals = [Value.ref a] ∧ args = [WData.list (ns.map WData.int)] ∧ h.get? a = some { cls := .type "list", data := .seq vs.toArray } ∧ IntsAre vs ns ∧ ns.length ≤ n := by
 have hsh : WShape.hasAll [] args [.list .int] = true := (pre_splitW hpre).1
 have hc : l.pre.holds [] { args := args } = true := (pre_splitW hpre).2
 obtain ⟨d, r, rfl, h1, h2⟩ := hasAllW_cons hsh
 obtain rfl := hasAllW_nil h2
 obtain ⟨xs, rfl, h3⟩ := hasW_list h1
 obtain ⟨ns, rfl⟩ := items_int h3
 have hlen : ns.length ≤ n := by
  unfold OpenLaw.pre at hc
  have h4 : (WTm.not (.lt (.lit (.int (n : Int))) (.len (.arg 0)))).holds [] { args := [.list (ns.map .int)] } = true := by
   have h4 := (holds_andW hc).1
   rw [hn] at h4
   exact h4
  have h5 := condW_of h4 (w_not (w_lt w_lit (w_len_list (w_arg rfl))))
  rw [List.length_map] at h5
  refine Nat.le_of_not_lt fun q => ?_
  have q' : (n : Int) < ((ns.length : Nat) : Int) := by omega
  first
   | (rw [decide_eq_true q'] at h5; exact absurd h5 (by decide))
   | (simp at h5; omega)
 cases hwl with
 | cons w1 w2 =>
  cases w2
  cases w1 with
  | list ho hall => exact ⟨_, _, ns, rfl, rfl, ho, oY ns _ hall, hlen⟩
theorem yO (l : OpenLaw) (args : List WData) : l.row.toRowW.claim.post args (.bool true) args = true :=
 postW_of (r := l.row.toRowW) (X := (true == true))
  (show WShape.has [] (.bool true) .bool = true by first | rfl | decide | simp [WShape.has, WShape.arms, WShape.armsAll])
  (show (WTm.eq .res (.lit (.bool true))).value [] { args := args, res := some (.bool true), after := args } = some (.bool (true == true)) from w_eq_bool (w_res rfl) w_lit) rfl
theorem attach_call {l : OpenLaw} {n : Nat} {q : Program} {loose : List Str} {XP : (Str → Option Value) → Heap → Prop} {YP : World → Heap → Prop} {d : DefRec}
  (hn : l.most = some n) (hdf : d.params.defaults = [])
  (call : ∀ (w : World) (s₀ s₁ : Shared) (mg mb : Str → Option Value) (fa : Addr) (o : Obj) (pm cd doc : Value) (a : Addr) (vs : List Value) (ns : List Int),
   Ground q loose [] XP w s₀ mg mb s₁.heap → YP w s₁.heap →
   s₁.heap.get? fa = some o → o.data = .func (docDef d.name d.params d.body d.scope pm cd doc) → s₁.heap.CodeRec cd d.name → mg d.name = some (.ref fa) →
   s₁.heap.get? a = some { cls := .type "list", data := .seq vs.toArray } → IntsAre vs ns → ns.length ≤ n → s₁.gens = #[] →
   codeAny (model l.prog w) callerA (.call (.ref fa) ⟨[.ref a], []⟩) (fun r s' => r = .ok (.ret (.bool true)) ∧ OldK s₁.heap s'.heap ∧ s'.os = s₁.os ∧ AllBare s'.gens) s₁) :
  WalkO q loose XP YP l.row.toRowW d [] (fun f vs => PySem.call f vs) := by
 intro w s₀ s₁ mg mb G Y fa o pm cd doc dV kV ho hd hcd hD hmg hg args vals as hpre hlay hrd hwl hlo
 obtain rfl : dV = .none := Dflts.none hD hdf
 obtain rfl : kV = .none := Dflts.noKw hD
 obtain ⟨a, vs, ns, rfl, rfl, hobj, hints, hlen⟩ := zm hn hpre hwl
 refine enter_call (codeAny_mono (call w s₀ s₁ mg mb fa o pm cd doc a vs ns G Y ho (fd_plain hd) hcd hmg hobj hints hlen hg) fun r s' hq => ?_)
 obtain ⟨rfl, h2, h3, h4⟩ := hq
 exact ⟨.inl ⟨.bool true, .bool true, [], rfl, fun _ => rfl, .bool true, yO l _, fun _ => ⟨List.Pairwise.nil, fun _ hm => (nomatch hm)⟩⟩, h2, h3, h4⟩
section
variable {prog : Program} {w : World} {A : Around} {E : Value → Shared → Prop} {s : Shared} {K : Frag}
end
end Att
namespace L2
open PySem PySem.Spec PyProof.Rows
theorem rK : ∀ {vs : List Value} {ns : List Int}, IntsAre vs ns → Vals (ns.map V.int) vs
 | _, _, .nil => .nil
 | _, _, .cons n t h => .cons ⟨t, rfl⟩ (rK h)
end L2
namespace L2
open PySem PySem.Spec PyProof.Rows
end L2
/- THE LAST THEOREM (shape; LID, My.* are yours):
   My.Adr: a structure of the addresses that your layer names (classes, functions); My.Txt K t: a structure (Prop) of the equations over K;
   My.txt_mk : {K} {implicit addresses ..} (e1 : nsIn K mainGlobals "law" = some (some (.ref f))) (e2 : K.lookup f = some ⟨oc, od, .func (fnOf "law" "law" params body scope dV kV doc pm an cdv ct), sl⟩) (e3 : codeIn K cdv "law" = true) .. : ∃ t, My.Txt K t
set_option maxRecDepth 100000 in
set_option maxHeartbeats 0 in
theorem PySem.Challenge.cw_LID_holds : PySem.Challenge.rw_LID.Holds := by
 w_on; o_law; k_head; (case hw => w_witness2)
 k_fill
 refine L2.walk_of (l := PySem.Challenge.rw_LID) (n := 63) (k := 40) (x := "script") (CX := fun w => ..) (sp := fun _ => My.sp_law) rfl (by decide) rfl ⟨rfl, by decide, by decide⟩ (fun w h Y => PySem.W.kIn_of Y) ?F ?S ?C
 case F =>
  intro w mg fa h KX G hmg
  have T : ∃ t, My.Txt (L2.KOf KX) t := by
   dsimp only [L2.KOf]                          -- K must stand as «<heap const> w.params» for k_is
   refine' My.txt_mk ?e1 ?e2 ?e3 ..
   (case e1 => PySem.W.k_is)                    -- in the order: a name -> its address -> its object -> its parts
   (case e2 => PySem.W.k_is)
   ..
  obtain ⟨t, T⟩ := T
  have e0 := hmg.symm.trans (PySem.W.mg_of KX G T.law)
  cases e0                                       -- fa is the law's own address
  exact ⟨_, fun s u => .of_eq rfl, fun base kb nb => My.law_fn T kb nb⟩     -- if «.of_eq rfl» comes too early: refine' ⟨_, ?b, fun base kb nb => My.law_fn T kb nb⟩; exact fun s u => .of_eq rfl
 case S => exact fun w H a ns hl hO hS => ..
 case C => exact ..
(the tactic k_is has no namespace: write k_is) -/
namespace L2
open PySem PySem.Spec PyProof.Rows
def inClass (s : Stmt) (j : Nat) : Stmt := match s with
 | .ClassDef _ _ _ body _ _ _ _ _ _ _ => body.getD j (.Pass ⟨0, 0, 0, 0⟩)
 | _ => .Pass ⟨0, 0, 0, 0⟩
def defArgs (s : Stmt) : Arguments := match s with
 | .FunctionDef _ a _ _ _ _ _ _ _ _ => a
 | _ => { posonlyargs := [], args := [], vararg := none, kwonlyargs := [], kw_defaults := [], kwarg := none, defaults := [] }
def defBody (s : Stmt) : List Stmt := match s with
 | .FunctionDef _ _ b _ _ _ _ _ _ _ => b
 | _ => []
def defScope (s : Stmt) : Scope := match s with
 | .FunctionDef _ _ _ _ _ _ sc _ _ _ => sc
 | _ => { kind := .function, names := [], isGenerator := false, isCoroutine := false }
abbrev CX0 : CXT := fun _ _ _ _ _ _ => False
abbrev E0 : XK := fun _ _ _ => False
theorem aJ {X : Cx} : gk CX0 X E0 := fun _ _ _ _ _ _ _ h => h.elim
structure Fun (K : PySem.W.Frag) (x qual : Str) (st : Stmt) (f : Addr) (fd : FuncData) : Prop where
 ex : ∃ (oc : Value) (od : Option Addr) (kV doc pm : Value) (an : Option Addr) (cdv ct : Value) (osl : Array (Option Value)),
  fd = PySem.W.fnOf x qual (defArgs st) (defBody st) (defScope st) .none kV doc pm an cdv ct ∧ K.lookup f = some ⟨oc, od, .func fd, osl⟩ ∧ PySem.W.codeIn K cdv qual = true
 kp : PySem.W.keepIn K (.ref f) = true
section
variable {P : Program} {w : World} {K : PySem.W.Frag} {mg : Str → Option Value} {base : Heap}
theorem Fun.ok {x qual : Str} {st : Stmt} {f : Addr} {fd : FuncData} {N ps : List Str} {k : Nat} {sp : Sp} (F : Fun K x qual st f fd) (S : aF N ps (defScope st)) (len : ∀ vs H Q E, sp vs H Q E → vs.length = ps.length)
  (hbody : ∀ (cdv : Value) (A : Around) (outer : List Env) (s : Shared) (H : Hp) (vs : List V) (Q : VK) (E : XK), cJ k (A.deeper (envOfC qual (defScope st) s.heap.objs.size f cdv)) → sp vs H Q E →
   ∃ t, PSs (gh CX0 P w K mg base N qual (defScope st) f cdv A outer s H E).nox (defBody st) t ∧ t { nx := fun _ H' => Q .non H', rt := Q } (start N vs) H) : aW P w K mg base CX0 (k + 1) f fd ps sp := by
 obtain ⟨oc, od, kV, doc, pm, an, cdv, ct, osl, rfl, lk, hcd⟩ := F.ex
 refine CZ lk hcd S len fun A outer s H vs Q E hr hsp => ?_
 obtain ⟨t, h, q⟩ := hbody cdv A outer s H vs Q E hr hsp
 exact ⟨t, h.nox, q⟩
theorem Fun.binds {x qual : Str} {st : Stmt} {f : Addr} {fd : FuncData} {ps : List Str} (F : Fun K x qual st f fd)
  (h : ∀ (kV doc pm : Value) (an : Option Addr) (cdv ct : Value) (us : List Value), us.length = ps.length → bindArgs (PySem.W.fnOf x qual (defArgs st) (defBody st) (defScope st) .none kV doc pm an cdv ct) ⟨us, []⟩ = pure (ps.zip us)) : Binds K fd ps [] := by
 obtain ⟨oc, od, kV, doc, pm, an, cdv, ct, osl, rfl, lk, hcd⟩ := F.ex
 exact .all (h kV doc pm an cdv ct)
theorem tZ {x qual : Str} {st : Stmt} {f : Addr} {oc : Value} {od an : Option Addr} {osl : Array (Option Value)} {kV doc pm cdv ct : Value} (l : K.lookup f = some ⟨oc, od, .func (PySem.W.fnOf x qual (defArgs st) (defBody st) (defScope st) .none kV doc pm an cdv ct), osl⟩)
  (c : PySem.W.codeIn K cdv qual = true) (k : PySem.W.keepIn K (.ref f) = true) : Fun K x qual st f (PySem.W.fnOf x qual (defArgs st) (defBody st) (defScope st) .none kV doc pm an cdv ct) := ⟨⟨oc, od, kV, doc, pm, an, cdv, ct, osl, rfl, l, c⟩, k⟩
end
section
variable {X : Cx}
theorem pv (i : Nat) {x : Str} {pos : Pos} (hN : X.N[i]? = some x := by rfl) (hv : Vis X.env.scope x := by first | exact Or.inl rfl | exact Or.inr (Or.inl rfl) | exact Or.inr (Or.inr rfl)) (hd : (x == ("__debug__" : Str)) = false := by decide)
  (hcd : (x == ("__classdict__" : Str)) = false := by decide) : PE X (.Name x pos) (Dz i) := xf hN hv hd hcd
end
theorem bw {A B : Prop} (h : B) : if false = true then A else B := by
 rw [if_neg Bool.false_ne_true]
 exact h
theorem gR {A B : Prop} (h : A) : if true = true then A else B := by
 rw [if_pos rfl]
 exact h
theorem bW {c A B : Prop} [Decidable c] (h1 : c → A) (h2 : ¬ c → B) : if c then A else B := by
 by_cases h : c
 ·rw [if_pos h]
  exact h1 h
 ·rw [if_neg h]
  exact h2 h
theorem uF {c A B : Prop} [Decidable c] (hc : c) (h : B) : if (!decide c) = true then A else B := by
 rw [decide_eq_true hc]
 exact bw h
def aQ (H H' : Hp) : Prop := ∀ b o, H b = some o → H' b = some o
theorem aQ.refl (H : Hp) : aQ H H := fun _ _ h => h
theorem aQ.trans {H H1 H2 : Hp} (a : aQ H H1) (b : aQ H1 H2) : aQ H H2 := fun c o h => b c o (a c o h)
theorem aQ.free {H H' : Hp} (e : aQ H H') {l : Addr} (h : H' l = Option.none) : H l = Option.none := by
 cases q : H l with
 | none => rfl
 | some o =>
  rw [e l o q] at h
  cases h
theorem aQ.seq {K : PySem.W.Frag} {H H' : Hp} {a : Addr} {xs : List V} (e : aQ H H') (h : SqL K H a xs) : SqL K H' a xs := by
 rcases h with (h | ⟨o, h⟩) | h
 ·exact .inl (.inl (e _ _ h))
 ·exact .inl (.inr ⟨o, e _ _ h⟩)
 ·exact .inr h
end L2
set_option maxHeartbeats 4000000
set_option Elab.async false
set_option linter.all false
set_option maxRecDepth 100000
set_option maxHeartbeats 4000000
namespace Tw
open PySem L2
theorem aA {H : Hp} {p : Addr} (h : H p = none) (o : HO) : aQ H (upd H p o) := fun b u q => by rw [aC (aB q h)]; exact q
theorem bN {H H' : Hp} {p : Addr} (s : aQ H H') (h : H p = none) (o : HO) : aQ H (upd H' p o) := fun b u q => by rw [aC (aB q h)]; exact s b u q
theorem small {n : Nat} (h : n ≤ 4097) : n < sizeLine := Nat.lt_of_le_of_lt h (by decide)
theorem cu : bootBuiltins "len" = some (.builtin "len") := by decide +kernel
theorem Do : bootBuiltins "sum" = some (.builtin "sum") := by decide +kernel
theorem cX : bootBuiltins "isinstance" = some (.builtin "isinstance") := by decide +kernel
theorem vV : bootBuiltins "min" = some (.builtin "min") := by decide +kernel
theorem Dn : bootBuiltins "max" = some (.builtin "max") := by decide +kernel
theorem Ep : bootBuiltins "int" = some (.type "int") := by decide +kernel
theorem Bt : bootBuiltins "bool" = some (.type "bool") := by decide +kernel
theorem ph : bootBuiltins "list" = some (.type "list") := by decide +kernel
theorem vd : bootBuiltins "tuple" = some (.type "tuple") := by decide +kernel
theorem jt : bootBuiltins "reversed" = some (.type "reversed") := by decide +kernel
theorem Dl : bootBuiltins "zip" = some (.type "zip") := by decide +kernel
theorem Bh (ns : List Int) (i j : Nat) : jX (ns.map V.int) (some (i : Int)) (some (j : Int)) = ((ns.drop i).take (j - i)).map V.int := by
 unfold jX
 rw [HT.o7, HT.o7, List.map_take, List.map_drop, List.length_map]
 rcases Nat.lt_or_ge ns.length i with h | h
 ·rw [Nat.min_eq_right (Nat.le_of_lt h), List.drop_of_length_le (by simp), List.drop_of_length_le (by simp; omega)]
  simp
 ·rw [Nat.min_eq_left h]
  rcases Nat.lt_or_ge ns.length j with q | q
  ·rw [Nat.min_eq_right (Nat.le_of_lt q), List.take_of_length_le (by simp), List.take_of_length_le (by simp; omega)]
  ·rw [Nat.min_eq_left q]
theorem vR (ns : List Int) (j : Nat) : jX (ns.map V.int) none (some (j : Int)) = (ns.take j).map V.int := by
 unfold jX
 rw [HT.o7, HT.u6, List.map_take, List.length_map, List.drop_zero, Nat.sub_zero]
 rcases Nat.lt_or_ge ns.length j with q | q
 ·rw [Nat.min_eq_right (Nat.le_of_lt q), List.take_of_length_le (by simp), List.take_of_length_le (by simp; omega)]
 ·rw [Nat.min_eq_left q]
theorem Ay (ns : List Int) (i : Nat) : jX (ns.map V.int) (some (i : Int)) none = (ns.drop i).map V.int := by
 unfold jX
 rw [HT.o7, HT.u6, List.map_drop, List.length_map]
 rcases Nat.lt_or_ge ns.length i with h | h
 ·rw [Nat.min_eq_right (Nat.le_of_lt h), List.drop_of_length_le (by simp), List.drop_of_length_le (by simp; omega)]
  simp
 ·rw [Nat.min_eq_left h, List.take_of_length_le (by simp)]
theorem int_at {ns : List Int} {i : Nat} {x : V} (h : (ns.map V.int)[i]? = some x) : ∃ c, ns[i]? = some c ∧ x = .int c := by
 rw [List.getElem?_map] at h
 cases e : ns[i]? with
 | none => rw [e] at h; cases h
 | some c => rw [e] at h; exact ⟨c, rfl, (Option.some.inj h).symm⟩
theorem o6 {ns : List Int} {i : Nat} {c : Int} (h : ns[i]? = some c) : atI (ns.map V.int) (i : Int) = some (.int c) := yc (by rw [List.getElem?_map, h]; rfl)
structure Df (K : PySem.W.Frag) (mg : Str → Option Value) (x : Str) (st : Stmt) (ps : List Str) (f : Addr) (fd : FuncData) : Prop where
 F : Fun K x x st f fd
 b : Binds K fd ps []
 m : mg x = some (.ref f)
end Tw
set_option Elab.async false
set_option linter.all false
set_option maxRecDepth 100000
set_option maxHeartbeats 4000000
namespace Tw
def bit (b : Int) (k : Nat) : Int := b / 2 ^ k % 2
def bits (b : Int) (n : Nat) : List Int := (List.range n).map (bit b)
def ones (b : Int) (n : Nat) : Int := (bits b n).sum
theorem dX (b : Int) (n : Nat) : (bits b n).length = n := by simp [bits]
theorem yo (b : Int) (n : Nat) : bits b (n + 1) = bits b n ++ [bit b n] := by simp [bits, List.range_succ]
theorem mC (b : Int) : ones b 0 = 0 := rfl
theorem jR (b : Int) (n : Nat) : ones b (n + 1) = ones b n + bit b n := by
 unfold ones; rw [yo]; simp
theorem pP {b : Int} {n k : Nat} (h : k < n) : (bits b n)[k]? = some (bit b k) := by simp [bits, h]
theorem yq (b : Int) (k : Nat) : bit b k = 0 ∨ bit b k = 1 := by
 unfold bit
 omega
end Tw
set_option Elab.async false
set_option linter.all false
set_option maxRecDepth 100000
set_option maxHeartbeats 4000000
namespace Tw
def aU (ns : List Int) : Prop := ∀ b ∈ ns, b = 0 ∨ b = 1
theorem aU.tail {b : Int} {ns : List Int} (h : aU (b :: ns)) : aU ns := fun x hx => h x (.tail _ hx)
theorem aU.head {b : Int} {ns : List Int} (h : aU (b :: ns)) : b = 0 ∨ b = 1 := h b (.head _)
theorem aU.take {ns : List Int} (h : aU ns) (k : Nat) : aU (ns.take k) := fun x hx => h x (List.mem_of_mem_take hx)
theorem aU.drop {ns : List Int} (h : aU ns) (k : Nat) : aU (ns.drop k) := fun x hx => h x (List.mem_of_mem_drop hx)
def blk : List Int → Int
 | [] => 0
 | b :: r => 2 * blk r + b
theorem vm (b : Int) : bit b 0 = b % 2 := by simp [bit]
theorem rD (b : Int) (k : Nat) : bit b (k + 1) = bit (b / 2) k := by
 unfold bit
 rw [Int.ediv_ediv_of_nonneg (by decide), ← Int.pow_succ']
theorem pq : ∀ {ns : List Int}, aU ns → ∀ k : Nat, bit (blk ns) k = (ns[k]?).getD 0
 | [], _, k => by simp [blk, bit]
 | b :: r, h, 0 => by
  have := h.head
  rw [vm]
  simp only [blk, List.getElem?_cons_zero, Option.getD_some]
  omega
 | b :: r, h, k + 1 => by
  have hb := h.head
  rw [rD, List.getElem?_cons_succ]
  have e : blk (b :: r) / 2 = blk r := by simp only [blk]; omega
  rw [e]
  exact pq h.tail k
theorem jw {ns : List Int} (h : aU ns) : ∀ k : Nat, ones (blk ns) k = (ns.take k).sum
 | 0 => by simp [mC]
 | k + 1 => by
  rw [jR, jw h k, pq h]
  by_cases hk : k < ns.length
  ·rw [List.take_add_one, List.getElem?_eq_getElem hk]
   simp only [Option.toList_some, List.sum_append, List.sum_cons, List.sum_nil, Option.getD_some]
   omega
  ·rw [List.take_of_length_le (by omega), List.take_of_length_le (by omega), List.getElem?_eq_none (by omega)]
   simp
def many (n : Nat) : Nat := (n + 31) / 32
def bU (ns : List Int) (j : Nat) : Int := blk ((ns.drop (32 * j)).take 32)
def dw (ns : List Int) : List Int := (List.range (many ns.length)).map (bU ns)
theorem fH (ns : List Int) : (dw ns).length = many ns.length := by simp [dw]
theorem dJ {ns : List Int} {j : Nat} (h : j < many ns.length) : (dw ns)[j]? = some (bU ns j) := by simp [dw, h]
theorem qp {ns : List Int} (h : aU ns) (j : Nat) : aU ((ns.drop (32 * j)).take 32) := (h.drop _).take _
theorem bit_at {ns : List Int} (h : aU ns) (j k : Nat) (hk : k < 32) : bit (bU ns j) k = (ns[32 * j + k]?).getD 0 := by
 unfold bU
 rw [pq (qp h j), List.getElem?_take_of_lt hk, List.getElem?_drop]
def net (b : Int) (k : Nat) : Int := 2 * ones b k - k
theorem Am (b : Int) : net b 0 = 0 := by simp [net, mC]
theorem uH (b : Int) (k : Nat) : net b (k + 1) = net b k + 2 * bit b k - 1 := by
 unfold net
 rw [jR]
 omega
def nets (b : Int) (n : Nat) : List Int := (List.range n).map fun k => net b (k + 1)
theorem dg (b : Int) (n : Nat) : (nets b n).length = n := by simp [nets]
theorem yl (b : Int) (n : Nat) : nets b (n + 1) = nets b n ++ [net b (n + 1)] := by simp [nets, List.range_succ]
theorem vg {b : Int} {n k : Nat} (h : k < n) : (nets b n)[k]? = some (net b (k + 1)) := by simp [nets, h]
theorem vJ {b : Int} {n : Nat} {x : Int} : x ∈ nets b n ↔ ∃ k, 1 ≤ k ∧ k ≤ n ∧ x = net b k := by
 unfold nets
 rw [List.mem_map]
 constructor
 ·rintro ⟨k, hk, rfl⟩
  exact ⟨k + 1, by omega, by have := List.mem_range.mp hk; omega, rfl⟩
 ·rintro ⟨k, h1, h2, rfl⟩
  refine ⟨k - 1, List.mem_range.mpr (by omega), ?_⟩
  have e : k - 1 + 1 = k := by omega
  rw [e]
def ht (ns : List Int) (k : Nat) : Int := 2 * (ns.take k).sum - k
theorem fB (ns : List Int) : ht ns 0 = 0 := by simp [ht]
theorem dR {ns : List Int} {k : Nat} {b : Int} (h : ns[k]? = some b) : ht ns (k + 1) = ht ns k + 2 * b - 1 := by
 unfold ht
 rw [List.take_add_one, h]
 simp only [Option.toList_some, List.sum_append, List.sum_cons, List.sum_nil]
 omega
theorem lJ (ns : List Int) (a k : Nat) : (ns.take (a + k)).sum = (ns.take a).sum + ((ns.drop a).take k).sum := by
 rw [List.take_add, List.sum_append]
theorem lw {ns : List Int} (h : aU ns) (j k : Nat) (hk : k ≤ 32) : ht ns (32 * j + k) = ht ns (32 * j) + net (bU ns j) k := by
 unfold ht net bU
 rw [jw (qp h j), lJ, List.take_take, Nat.min_eq_left hk]
 omega
theorem v7 {ns : List Int} (h : aU ns) (j k : Nat) (hk : k ≤ 32) : ones (bU ns j) k = ((ns.drop (32 * j)).take k).sum := by
 unfold bU
 rw [jw (qp h j), List.take_take, Nat.min_eq_left hk]
theorem jT {ns : List Int} (h : aU ns) (j k : Nat) (hk : k ≤ 32) : (ns.take (32 * j)).sum + ones (bU ns j) k = (ns.take (32 * j + k)).sum := by
 rw [v7 h j k hk, lJ]
def Due (b : Int) (st sp : Nat) (g : Int) (k : Nat) : Prop := st < k ∧ k ≤ sp ∧ net b k ≤ g
theorem yX (b : Int) (n : Nat) : bits b (n + 1) = b % 2 :: bits (b / 2) n := by
 unfold bits
 rw [List.range_succ_eq_map, List.map_cons, vm, List.map_map]
 congr 1
 refine List.map_congr_left fun k _ => ?_
 exact rD b k
theorem uJ : ∀ (n : Nat) (b : Int), 0 ≤ b → b < 2 ^ n → blk (bits b n) = b
 | 0, b, h0, h1 => by
  have : b = 0 := by simp at h1; omega
  subst this
  rfl
 | n + 1, b, h0, h1 => by
  rw [Int.pow_succ] at h1
  rw [yX, blk, uJ n (b / 2) (by omega) (by omega)]
  omega
theorem vH (b : Int) (n : Nat) : aU (bits b n) := fun x hx => by
 obtain ⟨k, _, rfl⟩ := List.mem_map.mp hx
 exact yq b k
end Tw
set_option Elab.async false
set_option linter.all false
set_option maxRecDepth 100000
set_option maxHeartbeats 4000000
namespace L2
open PySem PySem.Spec PyProof.Rows
section
variable {X : Cx} {pins : List (Addr × Obj)} {σ : St} {H : Hp} {s : Shared} {h' : Heap}
theorem Inv.turn2 {e it p : Addr} {o : HO} {t' : Nat} (I : Inv X pins σ H s) (fe : iQ X pins H e) (fi : iQ X pins H it)
  (k : ∀ b u, b ≠ e → b ≠ it → s.heap.get? b = some u → h'.get? b = some u) (hp : s.heap.objs.size ≤ p)
  (new : cj X.prog X.w (upd H p o) h' p o) : Inv X pins σ (upd H p o) { s with heap := h', toks := t' } := by
 have hn := I.hok.fresh hp
 have ne : ∀ b u, H b = some u → b ≠ e := fun b u q z => by rw [z, fe.1] at q; cases q
 have ni : ∀ b u, H b = some u → b ≠ it := fun b u q z => by rw [z, fi.1] at q; cases q
 have up : ∀ b u, H b = some u → upd H p o b = some u := fun b u q => by rw [aC (aB q hn)]; exact q
 have k' : ∀ b u, b ∉ [e, it] → s.heap.get? b = some u → h'.get? b = some u := fun b u hb q => k b u (fun z => hb (by simp [z])) (fun z => hb (by simp [z])) q
 refine I.step (g' := s.gens) (d' := s.drawn) (ch := [e, it]) (fun b hb => ?_) (fun b u _ _ hx q _ => k' b u hx q) (fun b u _ _ hx q _ => ⟨u.slots, k' b u hx q⟩)
  (fun b u _ q n => by rw [aC (Nat.ne_of_lt (Nat.lt_of_lt_of_le (Heap.lt_size q) hp))]; exact n) (fun b u hx q => ⟨u, k' b u hx q⟩)
  (fun b xs q => up _ _ q) (fun b ob u q => up _ _ q) (fun b ps q => ⟨#[], by rw [up _ _ q]; simp⟩) (fun m hm => ?_) (fun b u q => ?_) I.bare
 ·rcases List.mem_cons.mp hb with rfl | hb
  ·exact ⟨fe.2.2.2.1, fe.2.1, fe.2.2.2.2.1, fe.2.2.2.2.2⟩
  ·rw [List.mem_singleton.mp hb]
   exact ⟨fi.2.2.2.1, fi.2.1, fi.2.2.2.2.1, fi.2.2.2.2.2⟩
 ·obtain ⟨ob, es, ep, ho, r⟩ := hm
  exact ⟨ob, es, ep, k _ ob (Ne.symm fe.2.1) (Ne.symm fi.2.1) ho, r⟩
 ·by_cases hb : b = p
  ·subst hb
   rw [ak] at q
   cases q
   exact new
  ·rw [aC hb] at q
   refine (I.hok b u q).stay (fun c v hc r => k c v ?_ ?_ r) (fun c r => up _ _ r) fun c xs r => up _ _ r
   ·rcases hc with rfl | z
    ·exact ne _ _ q
    ·exact ne _ _ z
   ·rcases hc with rfl | z
    ·exact ni _ _ q
    ·exact ni _ _ z
end
def Ite (K : PySem.W.Frag) (a : Addr) : It :=
  ⟨fun i H => ∃ xs x, SqL K H a xs ∧ xs[i]? = some x, fun i H x H' => ∃ p y, H p = none ∧ x = .ref p ∧ H' = upd H p (.tup [.int (i : Int), y]) ∧ ∀ xs, SqL K H a xs → xs[i]? = some y,
   fun i H => ∃ xs, SqL K H a xs ∧ xs.length ≤ i⟩
theorem yJ {P : Program} {w : World} {K : PySem.W.Frag} {elts : List Expr} {x1 : Nat} {tpos : Pos} (a e it : Addr) (hne : e ≠ it) :
  Turn P w K (.Tuple elts x1 tpos) (Ite K a) [e, it] e (fun i h => (∃ old, IsEnum h e it (i : Nat) old) ∧ h.IsListIter it a i) where
 mem := by simp
 obj := fun i h st b hb => by
  obtain ⟨⟨old, he⟩, o, ho, hc, hd⟩ := st
  rcases List.mem_cons.mp hb with rfl | hb
  ·exact ⟨_, he, fun v z => by cases z⟩
  ·rw [List.mem_singleton.mp hb]
   exact ⟨o, ho, fun v z => by rw [hd] at z; cases z⟩
 keep := fun i h h' st k => by
  obtain ⟨⟨old, he⟩, st⟩ := st
  exact ⟨⟨old, k e (by simp) _ he⟩, st.at fun o q => k it (by simp) o q⟩
 item := by
  intro X hP hw hK hc i pins s σ H E I hf st hg
  subst hP hw hK
  obtain ⟨xs, x, hq, hx⟩ := hg
  obtain ⟨its, rv, p, hz⟩ := I.list hq
  obtain ⟨u, hu, ru⟩ := rv.get hx
  obtain ⟨⟨old, he⟩, st⟩ := st
  refine wpAny_pyNext_enum_item he st p.isList (x := u) (by simpa using hu) hne fun h1 heo hit1 ht1 hz1 hk1 => ?_
  refine ⟨_, rfl, wpAny_letOwnedTupleGo_enum heo fun h2 he2 hs2 => ?_⟩
  have ee : e < s.heap.objs.size := Heap.lt_size he
  have g2 : h2.get? s.heap.objs.size = some { cls := .type "tuple", data := .seq #[.int (i : Int) s.toks, u] } := (hs2.2 _ (Nat.ne_of_gt ee)).trans ht1
  have kk : ∀ b o, b ≠ e → b ≠ it → s.heap.get? b = some o → h2.get? b = some o := fun b o h3 h4 q => (hs2.2 b h3).trans (hk1 b o h3 h4 q)
  have new : cj X.prog X.w (upd H s.heap.objs.size (.tup [.int (i : Int), x])) h2 s.heap.objs.size (.tup [.int (i : Int), x]) :=
   ⟨(by show 2 ≤ sizeLine; decide), [.int (i : Int) s.toks, u], .cons ⟨_, rfl⟩ (.cons ru .nil), _, g2, rfl, _, rfl⟩
  have I2 := I.turn2 (h' := h2) (t' := s.toks + 1) (hf e (by simp)) (hf it (by simp)) kk (Nat.le_refl _) new
  have hn : H s.heap.objs.size = none := I.hok.fresh (Nat.le_refl _)
  refine ⟨.ref s.heap.objs.size, _, I2, rfl, ⟨_, x, hn, rfl, rfl, fun ys hy => by rw [I.list_inj hy hq]; exact hx⟩, ⟨⟨u, by simpa using he2⟩, hit1.extBut hs2.extBut (Ne.symm hne)⟩, fun b hb => ?_⟩
  have hbn := (hf b hb).1
  have hbs : b ≠ s.heap.objs.size := by
   obtain ⟨o, hio, _⟩ := st
   rcases List.mem_cons.mp hb with rfl | hb
   ·exact Nat.ne_of_lt ee
   ·rw [List.mem_singleton.mp hb]
    exact Nat.ne_of_lt (Heap.lt_size hio)
  rw [aC hbs]
  exact hbn
 done := by
  intro X hP hw hK hc i pins s σ H E I hf st hg
  subst hP hw hK
  obtain ⟨xs, hq, hx⟩ := hg
  obtain ⟨its, rv, p, hz⟩ := I.list hq
  obtain ⟨f0, f1, f2, f3, f4, f5⟩ := hf it (by simp)
  obtain ⟨⟨old, he⟩, st⟩ := st
  have hl := rv.length
  exact wpAny_pyNext_enum_end (I.ok.hd hc) he st p.isList (by simp; omega) fun h' eb => ⟨rfl, I.turned (t' := s.toks) (fun b o hb q => eb b o hb q) f0 f1 f3 f4 f5⟩
 self := fun _ _ _ _ _ st h => by
  obtain ⟨⟨old, he⟩, _⟩ := st
  exact wpAny_pyIter_enum he h
section
variable {X : Cx}
def Ey (K : PySem.W.Frag) (ta : TA) : TI := fun σ H R => ta σ H fun vs H1 => ∃ a xs, vs = [.ref a] ∧ SqL K H1 a xs ∧ R (Ite K a) H1
theorem rY {a : Expr} {ta : TA} {p pos : Pos} {elts : List Expr} {x1 : Nat} {tpos : Pos} (hg : Gl X "enumerate") (hm : X.mg "enumerate" = none) (ha : PA X [a] ta) (hs : starEach [a] X.env = [(false, eval a X.env)] := by rfl) :
  PI X (.Tuple elts x1 tpos) (.Call (.Name "enumerate" p) [a] [] pos) (Ey X.K ta) := by
 intro pins s σ H R I h
 refine Call_ (dD I hg hm boot_enumerate (PyProof.Rows.callWith_type1 (thn (ha pos pins s σ H _ I h) fun us s1 ⟨vs, H1, I1, r1, q1⟩ => ?_) hs rfl))
 obtain ⟨b, xs, e, hq, q⟩ := q1
 subst e
 obtain ⟨u, rfl, rx⟩ := vals1 r1
 cases rx
 obtain ⟨its, rv, pl, hz⟩ := I1.list hq
 refine call_enumerate_list pl.isList fun h' he hit hsz hk => ?_
 refine wpAny_pyIter_enum he ?_
 have I2 : Inv X pins σ H1 { s1 with heap := h' } := I1.kept (t' := s1.toks) hk
 have ne : s1.heap.objs.size + 1 ≠ s1.heap.objs.size := by omega
 refine ⟨s1.heap.objs.size + 1, [s1.heap.objs.size + 1, s1.heap.objs.size], _, Ite X.K b, H1, rfl, I2, yJ b _ _ ne, ⟨⟨_, he⟩, hit⟩, fun c hc => ?_, q⟩
 have hle : s1.heap.objs.size ≤ c := by
  rcases List.mem_cons.mp hc with rfl | hc
  ·omega
  ·rw [List.mem_singleton.mp hc]
   omega
 exact I1.fpOk hle (I1.hok.fresh hle)
end
theorem uQ {K : PySem.W.Frag} {a : Addr} {xs : List V} {g : TG} {tb : TS} {D : Ends} {σ : St} {H : Hp} (Pv : Nat → St → Hp → Prop) (h0 : Pv 0 σ H) (hl : ∀ i σ H, i ≤ xs.length → Pv i σ H → SqL K H a xs)
  (hs : ∀ i x σ H p, xs[i]? = some x → Pv i σ H → H p = none → g (.ref p) σ (upd H p (.tup [.int (i : Int), x])) fun σ2 H2 => tb { D with nx := Pv (i + 1), ct := Pv (i + 1), bk := D.nx } σ2 H2) (hd : ∀ σ H, Pv xs.length σ H → D.nx σ H) :
  ∃ W : Nat → Nat → St → Hp → Prop, (∃ m, W 0 m σ H) ∧ ∀ i m σ H, W i m σ H →
   ((Ite K a).stop i H ∧ D.nx σ H) ∨ ((Ite K a).go i H ∧ ∃ N : St → Hp → Prop, (∀ σ' H', N σ' H' → ∃ m', m' < m ∧ W (i + 1) m' σ' H') ∧ ∀ x H', (Ite K a).yld i H x H' → g x σ H' fun σ2 H2 => tb { D with nx := N, ct := N, bk := D.nx } σ2 H2) := by
 refine ⟨fun i m σ H => m = xs.length - i ∧ i ≤ xs.length ∧ Pv i σ H, ⟨xs.length, by simp, Nat.zero_le _, h0⟩, ?_⟩
 rintro i m σ H ⟨rfl, hi, p⟩
 have q := hl i σ H hi p
 by_cases hlt : i < xs.length
 ·refine .inr ⟨⟨xs, xs[i], q, by simp [hlt]⟩, Pv (i + 1), fun σ' H' p' => ⟨xs.length - (i + 1), by omega, rfl, hlt, p'⟩, fun x H' y => ?_⟩
  obtain ⟨c, y, hn, e1, e2, hy⟩ := y
  subst e1 e2
  exact hs i y σ H c (hy xs q) p hn
 ·have e : i = xs.length := by omega
  subst e
  exact .inl ⟨⟨xs, q, Nat.le_refl _⟩, hd σ H p⟩
section
variable {X : Cx}
theorem zJ (hc : X.calm = true) : gB X (.builtin "sum") (fun xs H Q => ∃ (p : Addr) (ns : List Int), xs = [.ref p] ∧ SqL X.K H p (ns.map V.int) ∧ Q (.int ns.sum) H) := by
 intro pins s σ H xs us Q I r h
 obtain ⟨p, ns, rfl, hq, q⟩ := h
 obtain ⟨u, rfl, rx⟩ := vals1 r
 cases rx
 obtain ⟨its, r', pl, hz⟩ := I.list hq
 have hi := intsAre_of r'
 obtain ⟨zs, e⟩ := hi.allInts.items
 refine sum_intListG (xs := zs) (I.ok.hd hc) (by rw [← e]; exact pl.isList) fun h' tk t' hk => ⟨.int ns.sum, H, I.kept (t' := tk) hk, ⟨t', ?_⟩, q⟩
 have e2 : numsOf (intItems zs).toList = ns := by rw [← e]; exact hi.numsOf
 rw [nums_intItems] at e2
 rw [← e2, preSum_eq, List.take_of_length_le (by simp)]
theorem uZ : gB X (.builtin "isinstance") (fun xs H Q => ∃ x T t b, xs = [x, .ty T] ∧ m6 X.K H x t ∧ PySem.W.kitOne X.K t (.type T) = some b ∧ Q (.bl b) H) := by
 intro pins s σ H xs us Q I r h
 obtain ⟨x, T, t, b, rfl, ty, e, q⟩ := h
 obtain ⟨u, v, rfl, rx, rv⟩ := vals2 r
 obtain rfl : v = Value.type T := rv
 exact yZ I rx ty e fun tk => ⟨.bl b, H, I.tok tk, rfl, q⟩
end
end L2
set_option Elab.async false
set_option linter.all false
set_option maxRecDepth 100000
set_option maxHeartbeats 4000000
namespace L2
open PySem PySem.Spec PyProof.Rows
def bC (X : Cx) (N : List Str) (scope : Scope) (cl : List (Str × Addr)) (C : Addr) (s : Shared) (H : Hp) (fp : List Addr) : Cx :=
 { X with N := N, s₀ := s, H₀ := H, env := compEnvC scope cl C X.env, outer := X.stack, ex := fp, fn := fun _ => false, pn := [], xe := fun _ _ => False }
structure dM (X : Cx) (x : Str) (caps : List (Str × Nat)) (scope : Scope) (cl : List (Str × Addr)) : Prop where
 kind : scope.kind = .function
 nocell : ∀ y ∈ scope.names, y.2 ≠ .cell
 names : ∀ y ∈ scope.names, y.2 = .local → scope.names.lookup y.1 = some .local
 hx : scope.names.lookup x = some .local
 clos : closureFor scope X.env = pure cl
 cls : ∀ y c, cl.lookup y = some c → X.env.cells.lookup y = some c
 has : ∀ y, ((relabel scope X.env).names.lookup y = some .cell ∨ (relabel scope X.env).names.lookup y = some .free) → ∃ c, cl.lookup y = some c
 nd : (x :: caps.map (·.1)).Nodup
 cap : ∀ y j, (y, j) ∈ caps → X.N[j]? = some y ∧ (X.env.scope.names.lookup y = some .cell ∨ X.env.scope.names.lookup y = some .free) ∧
  ((relabel scope X.env).names.lookup y = some .cell ∨ (relabel scope X.env).names.lookup y = some .free)
def fu (caps : List (Str × Nat)) (σ : St) : St := caps.map fun p => (σ[p.2]?).getD none
section
variable {X : Cx} {pins : List (Addr × Obj)} {σ : St} {H : Hp} {s : Shared}
theorem oA (caps : List (Str × Nat)) (σ : St) : (fu caps σ).length = caps.length := by simp [fu]
theorem Inv.comp {x : Str} {caps : List (Str × Nat)} {scope : Scope} {cl : List (Str × Addr)} {fp : List Addr} {h' : Heap} {tk : Nat} {m : Str → Option Value} {D C : Addr} (I : Inv X pins σ H s) (K0 : dM X x caps scope cl) (hf : ∀ b ∈ fp, iQ X pins H b)
  (hfs : ∀ b ∈ fp, b < s.heap.objs.size) (hD : s.heap.objs.size ≤ D) (hC : s.heap.objs.size ≤ C) (hDC : D ≠ C) (hk : ∀ b o, s.heap.get? b = some o → h'.get? b = some o) (hn : h'.Ns C m) (hL : h'.get? D = some { cls := .type "list", data := .seq #[] }) :
  Inv (bC X (x :: caps.map (·.1)) scope cl C s H fp) [] (none :: fu caps σ) (upd H D (.lst [])) { s with heap := h', toks := tk } := by
 have hnD := I.hok.fresh hD
 have hnC := I.hok.fresh hC
 have lkc : ∀ y c, (bC X (x :: caps.map (·.1)) scope cl C s H fp).env.cells.lookup y = some c → X.env.cells.lookup y = some c := fun y c e => K0.cls y c e
 have clt : ∀ y c, X.env.cells.lookup y = some c → c < s.heap.objs.size := fun y c e => by
  obtain ⟨v, q⟩ := I.cell y c e
  exact q.lt
 have up : ∀ b u, H b = some u → upd H D (.lst []) b = some u := fun b u q => by rw [aC (aB q hnD)]; exact q
 have ok : (bC X (x :: caps.map (·.1)) scope cl C s H fp).Ok := by
  refine ⟨I.ok.mod, K0.kind, I.ok.glob, I.ok.blt, hC, fun y z c h1 h2 => I.ok.inj y z c (lkc y c h1) (lkc z c h2), fun y hy => K0.has y hy, fun y c h => absurd (show false = true from h) Bool.false_ne_true, I.ok.hd, I.ok.frames, .inl rfl, fun b hb => ?_, I.bs, Nat.le_trans I.ok.bsz I.sz, fun b o e hb => ?_, fun b hb hz => ?_, I.stack, I.stkFree⟩
  ·obtain ⟨f0, f1, f2, f3, f4, f5⟩ := hf b hb
   exact ⟨Nat.ne_of_lt (Nat.lt_of_lt_of_le (hfs b hb) hC), fun y c e => f4 y c (lkc y c e)⟩
  ·obtain ⟨f0, f1, f2, f3, f4, f5⟩ := hf b hb
   rcases f3 with z | z
   ·exact I.ok.noex b o e z
   ·exact absurd (Nat.lt_of_lt_of_le (Nat.lt_of_lt_of_le (Heap.lt_size e) I.ok.bsz) z) (Nat.lt_irrefl _)
  ·obtain ⟨f0, f1, f2, f3, f4, f5⟩ := hf b hb
   rcases List.mem_cons.mp (I.stkSub b hz) with z | z
   ·exact f1 z
   ·exact f2 z
 refine ⟨ok, rfl, I.bare, ?_, ⟨m, hn, fun i y v e1 e2 e3 => ?_⟩, fun y c e => ?_, ?_, fun y c e => ?_, fun p hp => absurd (show p ∈ ([] : List (Addr × Obj)) from hp) (by simp), ?_, ?_⟩
 ·exact Un.laid hk hD hnD
 ·cases i with
  | zero => cases e2
  | succ i =>
   have e1' : (caps.map (·.1))[i]? = some y := e1
   have e2' : (fu caps σ)[i]? = some (some v) := e2
   rw [List.getElem?_map] at e1'
   unfold fu at e2'
   rw [List.getElem?_map] at e2'
   cases ec : caps[i]? with
   | none => rw [ec] at e1'; cases e1'
   | some p =>
    rw [ec] at e1' e2'
    obtain ⟨y', j⟩ := p
    have ey : y' = y := Option.some.inj e1'
    subst ey
    have ev : (σ[j]?).getD none = some v := Option.some.inj e2'
    have ev' : σ[j]? = some (some v) := by
     cases q : σ[j]? with
     | none => rw [q] at ev; cases ev
     | some w => rw [q] at ev; exact congrArg some ev
    obtain ⟨c1, c2, c3⟩ := K0.cap y' j (List.mem_of_getElem? ec)
    obtain ⟨m0, hn0, hl⟩ := I.loc
    obtain ⟨u, r, l⟩ := hl j y' v c1 ev' (by rcases c2 with z | z; exact .inr (.inl z); exact .inr (.inr z))
    refine ⟨u, r, .inr ⟨c3, ?_⟩⟩
    rcases l with ⟨k, _⟩ | ⟨k, c, ec, z⟩
    ·have k' : X.env.scope.names.lookup y' = some .local := k
     rcases c2 with z | z
     ·rw [z] at k'; cases k'
     ·rw [z] at k'; cases k'
    ·obtain ⟨c', hc'⟩ := K0.has y' c3
     have e4 := K0.cls y' c' hc'
     rw [ec] at e4
     cases e4
     obtain ⟨o, ho, hd⟩ := z
     exact ⟨c, hc', o, hk _ _ ho, hd⟩
 ·obtain ⟨v, o, ho, hd⟩ := I.cell y c (lkc y c e)
  exact ⟨v, o, hk _ _ ho, hd⟩
 ·show upd H D (.lst []) C = none
  rw [aC (Ne.symm hDC)]
  exact hnC
 ·have hlt := clt y c (lkc y c e)
  rw [aC (Nat.ne_of_lt (Nat.lt_of_lt_of_le hlt hD))]
  exact I.freeC y c (lkc y c e)
 ·exact I.hok.laid hk hD ⟨Nat.zero_le _, [], _, .nil, hL⟩
 ·show (none :: fu caps σ).length = (x :: caps.map (·.1)).length
  simp [oA]
theorem Inv.comped {N : List Str} {scope : Scope} {cl : List (Str × Addr)} {fp : List Addr} {C : Addr} {s' : Shared} {σ' : St} {H' : Hp} (I : Inv X pins σ H s) (hf : ∀ b ∈ fp, iQ X pins H b)
  (J : Inv (bC X N scope cl C s H fp) [] σ' H' s') : Inv X pins σ H' s' := by
 refine I.call' (ch := fp) (J.os.trans rfl) J.base J.hok J.bare fun b hb => ?_
 obtain ⟨f0, f1, f2, f3, f4, f5⟩ := hf b hb
 exact ⟨f3, f1, f4, f5⟩
def vX (J : It) (cap : St) (tt : TT) (te : TE) (Qf : Addr → Hp → Prop) (H : Hp) : Prop :=
 ∀ D, H D = none → ∃ W : Nat → Nat → List V → Hp → Prop, (∃ m, W 0 m [] (upd H D (.lst []))) ∧ ∀ i m ys H1, W i m ys H1 →
  (J.stop i H1 ∧ Qf D H1) ∨ (J.go i H1 ∧ ∀ v H2, J.yld i H1 v H2 → tt (some v :: cap) H2 fun b H3 => if b = true then
   te (some v :: cap) H3 fun y H4 => H4 D = some (.lst ys) ∧ ys.length < sizeLine ∧ ∃ m', m' < m ∧ W (i + 1) m' (ys ++ [y]) (upd H4 D (.lst (ys ++ [y]))) else ∃ m', m' < m ∧ W (i + 1) m' ys H3)
def PTs (X : Cx) (ifs : List Expr) (tt : TT) : Prop :=
 ∀ (pins : List (Addr × Obj)) (s : Shared) (σ : St) (H : Hp) (Q : Bool → Hp → Prop), Inv X pins σ H s → tt σ H Q →
  wpAny (model X.prog X.w) X.A (forIn ifs true fun c r => if r = true then do let ok ← isTrue c X.env (eval c X.env); pure (ForInStep.yield ok) else pure (ForInStep.yield r)) (TP X pins σ Q) X.xe s
def Az : TT := fun _ H Q => Q true H
theorem sr : PTs X [] Az := fun _ _ _ H _ I h => wpAny_tests_nil ⟨H, I, h⟩
theorem q9 {x : Str} {px pos : Pos} {caps : List (Str × Nat)} {scope : Scope} {cl : List (Str × Addr)} {elt iter : Expr} {ifs : List Expr} {J : It} {fp : List Addr} {it : Addr} {tn : Nat → Heap → Prop} {tt : TT} {te : TE} {Qf : Addr → Hp → Prop}
  {RR : Value → Addr → Result → Shared → Prop} {E : Value → Shared → Prop} (I : Inv X pins σ H s) (hc : X.calm = true) (K0 : dM X x caps scope cl) (T : Turn X.prog X.w X.K (.Name x px) J fp it tn) (st : tn 0 s.heap) (hf : ∀ b ∈ fp, iQ X pins H b)
  (ht : ∀ C s1 H1 fp1, PTs (bC X (x :: caps.map (·.1)) scope cl C s1 H1 fp1) ifs tt) (he : ∀ C s1 H1 fp1, PE (bC X (x :: caps.map (·.1)) scope cl C s1 H1 fp1) elt te) (rd : vX J (fu caps σ) tt te Qf H)
  (hRR : ∀ D C s' H' m, Inv X pins σ H' s' → s'.heap.Ns C m → iQ X pins H' C → Qf D H' → RR (.ref D) C (.ok .next) s') :
  wpAny (model X.prog X.w) X.A (newList []) (fun acc s3 => wpAny (model X.prog X.w) X.A (newFunctionEnv scope X.env.globals cl [] X.env.qual none .none (some X.env)) (fun cenv s4 =>
   codeAny (model X.prog X.w) X.A (.compStart (.ListComp elt [⟨.Name x px, iter, ifs, 0⟩] scope pos) 0 (.ref it) acc { cenv with scope := relabel scope X.env }) (RR acc cenv.locals) s4) E s3) E s := by
 have hfs : ∀ b ∈ fp, b < s.heap.objs.size := fun b hb => by
  obtain ⟨o, e, _⟩ := T.obj _ _ st b hb
  exact Heap.lt_size e
 refine wpAny_newObj_type (wpAny_newFunctionEnv K0.nocell (by intro y hy; simp at hy) (fun h1 hn1 hb1 => ?_) K0.kind)
 dsimp only at hn1 hb1 ⊢
 obtain ⟨D, eD⟩ : ∃ D : Nat, D = s.heap.objs.size := ⟨_, rfl⟩
 obtain ⟨H2, eH2⟩ : ∃ g, g = s.heap.push { cls := .type "list", dict := none, data := .seq ([] : List Value).toArray } := ⟨_, rfl⟩
 rw [← eH2] at hn1 hb1 ⊢
 rw [← eD]
 have hC : H2.objs.size = D + 1 := by rw [eH2, Heap.size_push, eD]
 have hle : s.heap.objs.size ≤ H2.objs.size := by rw [hC, eD]; exact Nat.le_succ _
 have hDC : D ≠ H2.objs.size := by rw [hC]; exact Nat.ne_of_lt (Nat.lt_succ_self _)
 have hk : ∀ b o, s.heap.get? b = some o → h1.get? b = some o := fun b o e => by
  refine hb1.extBut b o (Nat.ne_of_lt (Nat.lt_of_lt_of_le (Heap.lt_size e) hle)) (Heap.get?_push_of_some _ ?_)
  rw [eH2]
  exact Heap.get?_push_of_some _ e
 have hL : h1.get? D = some { cls := .type "list", data := .seq #[] } := by
  refine hb1.extBut D _ (by omega) (Heap.get?_push_of_some _ ?_)
  rw [eH2, eD]
  exact Heap.get?_push_size _ rfl
 have st1 : tn 0 h1 := T.keep _ _ _ st fun b _ o e => hk b o e
 obtain ⟨W, ⟨m0, w0⟩, turn⟩ := rd D (I.hok.fresh (by omega))
 have loop : codeAny (model X.prog X.w) X.A (.compLoop (.ListComp elt [⟨.Name x px, iter, ifs, 0⟩] scope pos) 0 (.ref it) (.ref D) (compEnvC scope cl H2.objs.size X.env)) (RR (.ref D) H2.objs.size) { s with heap := h1, toks := s.toks + ([] : List (Str × Value)).length } := by
  refine codeAny_compLoop_tests (fun n s' => ∃ i ys sl H', Inv (bC X (x :: caps.map (·.1)) scope cl H2.objs.size s H fp) [] (sl :: fu caps σ) H' s' ∧ tn i s'.heap ∧ (∀ b ∈ fp, H' b = none) ∧ W i n ys H') ?_ m0
   ⟨0, [], none, _, I.comp K0 hf hfs (by omega) (by omega) hDC hk hn1 hL, st1, fun b hb => ?_, w0⟩
  ·rintro n s3 ⟨i, ys, sl, H3, I3, st3, fr3, w3⟩
   have fpc : ∀ {H' : Hp} {pi : List (Addr × Obj)}, (∀ b ∈ fp, H' b = none) → (∀ p ∈ pi, p.1 ∉ fp) → ∀ b ∈ fp, iQ (bC X (x :: caps.map (·.1)) scope cl H2.objs.size s H fp) pi H' b := fun {H' pi} hn hp b hb => by
    obtain ⟨f0, f1, f2, f3, f4, f5⟩ := hf b hb
    refine ⟨hn b hb, ?_, fun z => ?_, .inl hb, fun y c e => f4 y c (K0.cls y c e), fun p hpp z => ?_⟩
    ·exact Nat.ne_of_lt (Nat.lt_of_lt_of_le (hfs b hb) hle)
    ·rcases List.mem_cons.mp (I.stkSub b z) with q | q
     ·exact f1 q
     ·exact f2 q
    ·exact hp p (by simpa [bC] using hpp) (by rw [z]; exact hb)
   have clear : ∀ {α : Type} {t : Sem α} {Q : α → Shared → Prop} {E' : Value → Shared → Prop} {s : Shared}, wpAny (model X.prog X.w) X.A t Q (fun _ _ => False) s → wpAny (model X.prog X.w) X.A t Q E' s := fun h => wpAny_mono h (fun _ _ z => z) fun _ _ z => z.elim
   rcases turn i n ys H3 w3 with ⟨stop, qf⟩ | ⟨go, step⟩
   ·refine thn (T.done (bC X (x :: caps.map (·.1)) scope cl H2.objs.size s H fp) rfl rfl rfl hc i [] s3 _ H3 _ I3 (fpc fr3 (by simp)) st3 stop) fun r s4 ⟨hr, I4⟩ => ?_
    subst hr
    obtain ⟨m4, hn4, _⟩ := id I4.loc
    refine hRR D _ s4 H3 m4 (I.comped hf I4) hn4 ?_ qf
    have gC : s.heap.objs.size ≤ H2.objs.size := by omega
    exact I.fpOk gC I4.free
   ·refine clear (thn (T.item (bC X (x :: caps.map (·.1)) scope cl H2.objs.size s H fp) rfl rfl rfl hc i [] s3 _ H3 (fun _ _ => False) I3 (fpc fr3 (by simp)) st3 go) fun r s4 ⟨u, hr, h4⟩ => ?_)
    subst hr
    refine clear (show wpAny (model X.prog X.w) X.A (pure () >>= fun _ => assign (.Name x px) (compEnvC scope cl H2.objs.size X.env) u) _ _ s4 from wpAny_bind (thn (h4 : wpAny (model X.prog X.w) X.A (pure ()) _ _ s4) fun _ s5 ⟨v, H5, I5, r5, y5, st5, fr5⟩ => ?_))
    have I5' := I5.pinned (fpc fr5 (by simp)) (T.obj _ _ st5)
    have hg : PG (bC X (x :: caps.map (·.1)) scope cl H2.objs.size s H fp) (.Name x px) (pG 0) := bh (i := 0) K0.nd rfl (Or.inl (lookup_relabel_local K0.hx)) (Or.inr (lookup_relabel_local K0.hx))
    refine thn (hg _ s5 (sl :: fu caps σ) H5 v u (fun σ2 H2 => σ2 = some v :: fu caps σ ∧ H2 = H5) I5' r5 (show _ ∧ _ from ⟨rfl, rfl⟩)) fun _ s6 ⟨σ6, H6, I6, e6, e7⟩ => ?_
    subst e6 e7
    have q6 := step v _ y5
    have again : ∀ {H7 : Hp} {s7 : Shared} {sl : Option V} {zs : List V} {m' : Nat}, Inv (bC X (x :: caps.map (·.1)) scope cl H2.objs.size s H fp) ([] ++ nD fp s5.heap) (sl :: fu caps σ) H7 s7 → m' < n → W (i + 1) m' zs H7 →
      ∃ m, m < n ∧ ∃ i ys sl H', Inv (bC X (x :: caps.map (·.1)) scope cl H2.objs.size s H fp) [] (sl :: fu caps σ) H' s7 ∧ tn i s7.heap ∧ (∀ b ∈ fp, H' b = none) ∧ W i m ys H' := fun {H7 s7 sl zs m'} I7 hm w7 => by
     refine ⟨m', hm, i + 1, zs, sl, H7, I7.unpinned, T.keep _ _ _ st5 fun b hb o e => (I7.pin (b, o) (List.mem_append_right _ (List.mem_append_right _ (dG hb e)))).1, fun b hb => ?_, w7⟩
     obtain ⟨o, e, d⟩ := T.obj _ _ st5 b hb
     exact (I7.pin (b, o) (List.mem_append_right _ (List.mem_append_right _ (dG hb e)))).2.1
    refine clear (thn (ht H2.objs.size s H fp _ s6 _ H6 _ I6 q6) fun ok s7 ⟨H7, I7, q7⟩ => ?_)
    cases ok with
    | false =>
     obtain ⟨m', hm, w7⟩ := (show ∃ m', m' < n ∧ W (i + 1) m' ys H7 from q7)
     exact again I7 hm w7
    | true =>
     refine clear (thn (he H2.objs.size s H fp _ s7 _ H7 _ I7 q7) fun xv s8 ⟨y, H8, I8, r8, hD8, hz8, m', hm, w8⟩ => ?_)
     refine clear (thn (bV _ s8 _ H8 (.ref D) [y] (.ref D) [xv] (fun _ H9 => H9 = upd H8 D (.lst (ys ++ [y]))) I8 rfl (.cons r8 .nil) ⟨D, ys, y, rfl, rfl, hD8, hz8, rfl⟩) fun _ s9 ⟨_, H9, I9, _, e9⟩ => ?_)
     subst e9
     exact again I9 hm w8
  ·rw [aC (by rw [eD]; exact Nat.ne_of_lt (hfs b hb))]
   exact (hf b hb).1
 exact codeAny_compStart_list loop (T.self _ 0 _ _ _ st1 loop)
def Cu (wi : TI) (caps : List (Str × Nat)) (tt : TT) (te : TE) : TE := fun σ H Q => wi σ H fun J H1 => vX J (fu caps σ) tt te (fun D H' => Q (.ref D) H') H1
theorem xO {x : Str} {px pos : Pos} {caps : List (Str × Nat)} {scope : Scope} {cl : List (Str × Addr)} {elt iter : Expr} {ifs : List Expr} {wi : TI} {tt : TT} {te : TE} (hc : X.calm = true) (K0 : dM X x caps scope cl) (hi : PI X (.Name x px) iter wi)
  (ht : ∀ C s1 H1 fp1, PTs (bC X (x :: caps.map (·.1)) scope cl C s1 H1 fp1) ifs tt) (he : ∀ C s1 H1 fp1, PE (bC X (x :: caps.map (·.1)) scope cl C s1 H1 fp1) elt te) (hs : ∀ x, foldedSetIterable iter X.env x = pure x := by intro _; rfl) :
  PE X (.ListComp elt [⟨.Name x px, iter, ifs, 0⟩] scope pos) (Cu wi caps tt te) := by
 intro pins s σ H Q I h
 rw [eval_ListComp]
 refine wpAny_comprehension_free (use := none) rfl hs K0.clos K0.kind K0.names (thn (hi pins s σ H _ I h) fun v s1 h1 => thn h1 fun itv s2 h2 => ?_)
 obtain ⟨it, fp, tn, J, H2, e, I2, T, st2, f2, rd⟩ := h2
 subst e
 refine q9 (RR := fun acc C => compPost (model X.prog X.w) X.A X.xe none (EP X pins σ Q) acc C) I2 hc K0 T st2 f2 ht he rd ?_
 intro D C s' H' m I' hn fC q
 exact ⟨m, hn, fun h'' hs'' => ⟨.ref D, H', I'.turned (h' := h'') (t' := s'.toks) (fun b o hb e => hs''.extBut b o hb e) fC.1 fC.2.1 fC.2.2.2.1 fC.2.2.2.2.1 fC.2.2.2.2.2, rfl, q⟩⟩
theorem wy {i : Nat} {y x : Str} {px py pos spos : Pos} {caps : List (Str × Nat)} {scope : Scope} {cl : List (Str × Addr)} {elt iter : Expr} {ifs : List Expr} {wi : TI} {tt : TT} {te : TE} (hN : X.N.Nodup) (hiN : X.N[i]? = some y) (hy : X.env.scope.names.lookup y = some .local) (hc : X.calm = true)
  (K0 : dM X x caps scope cl) (hi : PI X (.Name x px) iter wi)
  (ht : ∀ C s1 H1 fp1, PTs (bC X (x :: caps.map (·.1)) scope cl C s1 H1 fp1) ifs tt) (he : ∀ C s1 H1 fp1, PE (bC X (x :: caps.map (·.1)) scope cl C s1 H1 fp1) elt te)
  (hsw : swapsWith (.ListComp elt [⟨.Name x px, iter, ifs, 0⟩] scope pos) (some (.Name y py)) spos.line X.env = pure true := by rfl) (hs : ∀ x, foldedSetIterable iter X.env x = pure x := by intro _; rfl) :
  PS X (.Assign [.Name y py] (.ListComp elt [⟨.Name x px, iter, ifs, 0⟩] scope pos) spos) (Bo (Cu wi caps tt te) (pG i)) := by
 intro pins s σ H D0 I h
 rw [exec_Assign_Name_used _ _ _ _ hsw]
 refine wpAny_bind (wpAny_standAt (wpAny_bind ?_))
 show wpAny _ X.A (do let _ ← comprehension (.ListComp elt [⟨.Name x px, iter, ifs, 0⟩] scope pos) scope X.env _ (newList []) false (eval iter X.env) (some (assign (.Name y py) X.env))) _ _ s
 refine wpAny_bind (wpAny_mono (wpAny_comprehension_free (use := some (assign (.Name y py) X.env)) (Q := fun _ s' => SP X pins D0 .next s') rfl hs K0.clos K0.kind K0.names
  (thn (hi pins s σ H _ I h) fun v s1 h1 => thn h1 fun itv s2 h2 => ?_)) (fun _ s' hq => wpAny_pure (wpAny_pure hq)) fun _ _ e => e)
 obtain ⟨it, fp, tn, J, H2, e, I2, T, st2, f2, rd⟩ := h2
 subst e
 refine q9 (RR := fun acc C => compPost (model X.prog X.w) X.A X.xe (some (assign (.Name y py) X.env)) (fun _ s' => SP X pins D0 .next s') acc C) I2 hc K0 T st2 f2 ht he rd ?_
 intro D C s' H' m I' hn fC q
 show wpAny _ X.A (assign (.Name y py) X.env (.ref D)) _ _ _
 refine wpAny_assign_Name (nG (v := .ref D) I' hN hiN (.inl hy) rfl (fun s'' I'' ch => ⟨m, ?_, fun h'' hs'' => ?_⟩) (.inr hy))
 ·obtain ⟨a, sb, ha⟩ := ch
  refine hn.sameBut sb fun z => ?_
  rcases ha with ha | ha
  ·exact fC.2.1 (z.trans ha)
  ·exact fC.2.2.2.2.1 _ a ha z.symm
 ·exact ⟨_, H', I''.turned (h' := h'') (t' := s''.toks) (fun b o hb e => hs''.extBut b o hb e) fC.1 fC.2.1 fC.2.2.2.1 fC.2.2.2.2.1 fC.2.2.2.2.2, q⟩
end
theorem lE {scope : Scope} {env : Env} {y : Str} {k : NameKind} (h : (relabel scope env).names.lookup y = some k) : ∃ k0, (y, k0) ∈ scope.names ∧ (k = k0 ∨ (k0 = .free ∧ k = .cell)) := by
 have h := PySem.mem_of_lookup h
 obtain ⟨⟨n, k0⟩, hm, e⟩ := List.mem_map.mp (show (y, k) ∈ scope.names.map _ from h)
 by_cases c : (k0 == NameKind.free && env.scope.kind == .function && env.kindOf n == some .cell) = true
 ·have e' : (n, NameKind.cell) = (y, k) := by rw [← e]; exact (if_pos c).symm
  have c1 : k0 = .free := by
   simp only [Bool.and_eq_true] at c
   exact eq_of_beq c.1.1
  cases e'
  exact ⟨_, hm, .inr ⟨c1, rfl⟩⟩
 ·have e' : (n, k0) = (y, k) := by rw [← e]; exact (if_neg c).symm
  cases e'
  exact ⟨_, hm, .inl rfl⟩
section
variable {X : Cx} {x : Str} {scope : Scope}
theorem dM.one {y : Str} {j : Nat} {c : Addr} (hN : X.N[j]? = some y) (hX : X.env.scope.names.lookup y = some .cell ∨ X.env.scope.names.lookup y = some .free) (ec : X.env.cells.lookup y = some c) (clos : closureFor scope X.env = pure [(y, c)])
  (hr : (relabel scope X.env).names.lookup y = some .cell ∨ (relabel scope X.env).names.lookup y = some .free)
  (hfree : ∀ z ∈ scope.names, z.2 = .free → z.1 = y := by decide) (nocell : ∀ y ∈ scope.names, y.2 ≠ .cell := by decide) (kind : scope.kind = .function := by rfl) (names : ∀ y ∈ scope.names, y.2 = .local → scope.names.lookup y.1 = some .local := by decide)
  (hx : scope.names.lookup x = some .local := by rfl) (nd : [x, y].Nodup := by decide) : dM X x [(y, j)] scope [(y, c)] := by
 have look : ([(y, c)] : List (Str × Addr)).lookup y = some c := by simp
 refine ⟨kind, nocell, names, hx, clos, fun z d e => ?_, fun z hz => ?_, nd, fun z i h => ?_⟩
 ·have := PySem.mem_of_lookup e
  cases List.mem_singleton.mp this
  exact ec
 ·have hz' : z = y := by
   rcases hz with hz | hz
   all_goals
    obtain ⟨k0, hm, e⟩ := lE hz
    rcases e with e | ⟨e, _⟩
    ·subst e
     first | exact absurd rfl (nocell _ hm) | exact hfree _ hm rfl
    ·subst e
     exact hfree _ hm rfl
  subst hz'
  exact ⟨c, look⟩
 ·cases List.mem_singleton.mp h
  exact ⟨hN, hX, hr⟩
theorem dM.two {y z : Str} {j k : Nat} {c d : Addr} (hyz : y ≠ z) (hNy : X.N[j]? = some y) (hNz : X.N[k]? = some z) (hXy : X.env.scope.names.lookup y = some .cell ∨ X.env.scope.names.lookup y = some .free)
  (hXz : X.env.scope.names.lookup z = some .cell ∨ X.env.scope.names.lookup z = some .free) (ecy : X.env.cells.lookup y = some c) (ecz : X.env.cells.lookup z = some d) (clos : closureFor scope X.env = pure [(y, c), (z, d)])
  (hry : (relabel scope X.env).names.lookup y = some .cell ∨ (relabel scope X.env).names.lookup y = some .free) (hrz : (relabel scope X.env).names.lookup z = some .cell ∨ (relabel scope X.env).names.lookup z = some .free)
  (hfree : ∀ u ∈ scope.names, u.2 = .free → u.1 = y ∨ u.1 = z := by decide) (nocell : ∀ y ∈ scope.names, y.2 ≠ .cell := by decide) (kind : scope.kind = .function := by rfl) (names : ∀ y ∈ scope.names, y.2 = .local → scope.names.lookup y.1 = some .local := by decide)
  (hx : scope.names.lookup x = some .local := by rfl) (nd : [x, y, z].Nodup := by decide) : dM X x [(y, j), (z, k)] scope [(y, c), (z, d)] := by
 have ly : ([(y, c), (z, d)] : List (Str × Addr)).lookup y = some c := by simp
 have lz : ([(y, c), (z, d)] : List (Str × Addr)).lookup z = some d := by
  have : (z == y) = false := by simpa using Ne.symm hyz
  simp [List.lookup, this]
 refine ⟨kind, nocell, names, hx, clos, fun u e he => ?_, fun u hu => ?_, nd, fun u i h => ?_⟩
 ·have hm := PySem.mem_of_lookup he
  rcases List.mem_cons.mp hm with q | q
  ·cases q
   exact ecy
  ·cases List.mem_singleton.mp q
   exact ecz
 ·have hu' : u = y ∨ u = z := by
   rcases hu with hu | hu
   all_goals
    obtain ⟨k0, hm, e⟩ := lE hu
    rcases e with e | ⟨e, _⟩
    ·subst e
     first | exact absurd rfl (nocell _ hm) | exact hfree _ hm rfl
    ·subst e
     exact hfree _ hm rfl
  rcases hu' with rfl | rfl
  ·exact ⟨c, ly⟩
  ·exact ⟨d, lz⟩
 ·rcases List.mem_cons.mp h with q | q
  ·cases q
   exact ⟨hNy, hXy, hry⟩
  ·cases List.mem_singleton.mp q
   exact ⟨hNz, hXz, hrz⟩
end
end L2
set_option Elab.async false
set_option linter.all false
set_option maxRecDepth 100000
set_option maxHeartbeats 4000000
namespace L2
open PySem PySem.Spec PyProof.Rows
section
variable {prog : Program} {w : World} {A : Around} {R : Result → Shared → Prop} {I S : Addr} {fp wr : List Addr} {n : Nat} {P : Nat → Value → Prop} {St : Nat → Heap → Prop} {kw : List (Str × Value)}
theorem yg (W : Walks prog w A.in1 I fp wr n P St) (bt : Nat → Nat → Bool) (cmp : CmpOf prog w A.in1 .Lt P bt) (hSf : S ∉ fp) :
  ∀ (k j : Nat) (s : Shared) (x : Value) (c : Nat), j + 1 + k = n → St (j + 1) s.heap → P (argBest bt j) x → s.heap.get? S = some { cls := .type "list", data := .seq #[x, x] c } →
   (∀ v g t, P (argBest bt (n - 1)) v → (∀ b o, b ∉ wr → b ≠ S → s.heap.get? b = some o → g.get? b = some o) → R (.ok (.ret v)) { s with heap := g, toks := t }) →
   codeAny (model prog w) A (.builtin "min.loop" ⟨[.ref I, .none, .ref S], kw⟩) R s := by
 have hSw : S ∉ wr := fun z => hSf (W.sub _ z)
 have nm : (toString "min" ++ toString ".loop" : String) = "min.loop" := by decide
 intro k
 induction k with
 | zero =>
  intro j s x c hj st px hS fin
  have hn : j + 1 = n := hj
  refine codeAny_builtin PySem.F.entry_min_loop ?_
  rw [Around.under_plainId PySem.F.plain_min_loop _]
  show wpAny _ A.in1 (seqItems? (.ref S) >>= _) _ _ s
  refine wpAny_bind (wpAny_seqItems hS rfl ?_)
  show wpAny _ A.in1 (tryCatch (pyNext (.ref I)) _ >>= _) _ _ s
  refine wpAny_bind (wpAny_tryCatch (W.done s _ _ (hn ▸ st) fun g t kk => ?_))
  have hS1 := kk S _ hSw hS
  show wpAny _ A.in1 (updateSeq S (fun _ => #[]) >>= _) _ _ _
  refine wpAny_bind (wpAny_updateSeq hS1 rfl (wpAny_bind (wpAny_letGo (wpAny_pure ?_))))
  exact fin x _ t (by rw [← hn]; exact px) fun b o b1 b2 q => (Heap.get?_update_other _ _ (Ne.symm b2)).trans (kk b o b1 q)
 | succ k ih =>
  intro j s x c hj st px hS fin
  have lt : j + 1 < n := by omega
  refine codeAny_builtin PySem.F.entry_min_loop ?_
  rw [Around.under_plainId PySem.F.plain_min_loop _]
  show wpAny _ A.in1 (seqItems? (.ref S) >>= _) _ _ s
  refine wpAny_bind (wpAny_seqItems hS rfl ?_)
  show wpAny _ A.in1 (tryCatch (pyNext (.ref I)) _ >>= _) _ _ s
  refine wpAny_bind (wpAny_tryCatch (W.item (j + 1) s _ _ lt st fun v g t pv st1 kk => ?_))
  have hS1 := kk S _ hSw hS
  show wpAny _ A.in1 (tryCatch (holding [v, v] (richCompare .Lt v x >>= _)) _ >>= _) _ _ _
  refine wpAny_bind (wpAny_tryCatch (wpAny_holding (wpAny_bind (cmp (j + 1) (argBest bt j) v x _ _ _ pv px ?_))))
  refine wpAny_bind (wpAny_holding (wpAny_truthy_bool (wpAny_bind (wpAny_letGo (wpAny_pure ?_)))))
  cases hb : bt (j + 1) (argBest bt j) with
  | true =>
   simp only [if_true]
   refine wpAny_bind (wpAny_updateSeq hS1 rfl (wpAny_bind (wpAny_letGo ?_)))
   rw [nm]
   refine wpAny_pure ⟨plainId_quiet PySem.F.plain_min_loop _, ih (j + 1) _ v _ (by omega) (W.frame _ _ _ st1 fun b bf o q => ?_) (by simp only [argBest, hb, if_true]; exact pv) (Heap.get?_update_self _ hS1 rfl) fun y g2 t2 py k2 => ?_⟩
   ·exact (Heap.get?_update_other _ _ (fun z : S = b => hSf (by rw [z]; exact bf))).trans q
   ·exact fin y g2 t2 py fun b o b1 b2 q => k2 b o b1 b2 ((Heap.get?_update_other _ _ (Ne.symm b2)).trans (kk b o b1 q))
  | false =>
   simp only [Bool.false_eq_true, if_false]
   refine wpAny_bind (wpAny_letGo ?_)
   rw [nm]
   refine wpAny_pure ⟨plainId_quiet PySem.F.plain_min_loop _, ih (j + 1) _ x c (by omega) st1 (by simp only [argBest, hb, Bool.false_eq_true, if_false]; exact px) hS1 fun y g2 t2 py k2 => ?_⟩
   exact fin y g2 t2 py fun b o b1 b2 q => k2 b o b1 b2 (kk b o b1 q)
theorem wJ (W : Walks prog w A.in1 I fp wr n P St) (bt : Nat → Nat → Bool) (cmp : CmpOf prog w A.in1 .Lt P bt) (hSf : S ∉ fp) (hn : 0 < n) {s : Shared} {c : Nat} (st : St 0 s.heap)
  (hS : s.heap.get? S = some { cls := .type "list", data := .seq #[] c })
  (fin : ∀ v g t, P (argBest bt (n - 1)) v → (∀ b o, b ∉ wr → b ≠ S → s.heap.get? b = some o → g.get? b = some o) → R (.ok (.ret v)) { s with heap := g, toks := t }) :
  codeAny (model prog w) A (.builtin "min.loop" ⟨[.ref I, .none, .ref S], kw⟩) R s := by
 have hSw : S ∉ wr := fun z => hSf (W.sub _ z)
 have nm : (toString "min" ++ toString ".loop" : String) = "min.loop" := by decide
 refine codeAny_builtin PySem.F.entry_min_loop ?_
 rw [Around.under_plainId PySem.F.plain_min_loop _]
 show wpAny _ A.in1 (seqItems? (.ref S) >>= _) _ _ s
 refine wpAny_bind (wpAny_seqItems hS rfl ?_)
 show wpAny _ A.in1 (tryCatch (pyNext (.ref I)) _ >>= _) _ _ s
 refine wpAny_bind (wpAny_tryCatch (W.item 0 s _ _ hn st fun v g t pv st1 kk => ?_))
 have hS1 := kk S _ hSw hS
 show wpAny _ A.in1 (updateSeq S (fun _ => #[v, v]) >>= _) _ _ _
 refine wpAny_bind (wpAny_updateSeq hS1 rfl ?_)
 rw [nm]
 refine wpAny_pure ⟨plainId_quiet PySem.F.plain_min_loop _, yg W bt cmp hSf (n - 1) 0 _ v _ (by omega) (W.frame _ _ _ st1 fun b bf o q => ?_) pv (Heap.get?_update_self _ hS1 rfl) fun y g2 t2 py k2 => ?_⟩
 ·exact (Heap.get?_update_other _ _ (fun z : S = b => hSf (by rw [z]; exact bf))).trans q
 ·exact fin y g2 t2 py fun b o b1 b2 q => k2 b o b1 b2 ((Heap.get?_update_other _ _ (Ne.symm b2)).trans (kk b o b1 q))
end
theorem yM (a v : Value) : argsOk "min" ⟨[a], [(Str.ofString "default", v)]⟩ := by unfold argsOk; kernel_rfl
section
variable {prog : Program} {w : World} {A : Around} {E : Value → Shared → Prop} {s : Shared} {l : Addr} {zs : Array (Int × Tok)}
theorem nM {d : Value} {Q : Value → Shared → Prop} (hh : A.handled = none) (hl : s.heap.IsList l (intItems zs)) (hne : 0 < zs.size)
  (h : ∀ v g t, (intItems zs)[argBest (fun i j => decide (numAt zs i < numAt zs j)) (zs.size - 1)]? = some v → (∀ b o, s.heap.get? b = some o → g.get? b = some o) → Q v { s with heap := g, toks := t }) :
  wpAny (model prog w) A (call (.builtin "min") [.ref l] [(Str.ofString "default", d)]) Q E s := by
 have nm : (toString "min" ++ toString ".loop" : String) = "min.loop" := by decide
 refine PyProof.Rows.kmk_tree PySem.F.kind_min PySem.F.plain_min PySem.F.entry_min (yM _ _) ?_
 refine wpAny_bind (wpAny_of_eq (show Builtin.Builtins.bindParams "min" ["key", "default"] 0 ⟨[], [(Str.ofString "default", d)]⟩ = pure [none, some d] from rfl) ?_)
 refine wpAny_bind (wpAny_pure (wpAny_bind (iter_intList hl fun s2 e st hfp hlI => ?_)))
 subst e
 refine wpAny_bind (wpAny_newObj_type ?_)
 rw [nm]
 have hz : (intItems zs).size = zs.size := by simp [intItems]
 refine wpAny_pure ⟨plainId_quiet PySem.F.plain_min_loop _, wJ (Walks.list (A := A.in1) hh _ l hlI (intItems zs)) _ (CmpOf.ints_lt (numAt zs) (fun _ _ => intItems_at)) (fun z => Nat.lt_irrefl _ (hfp _ z)) (by rw [hz]; exact hne)
  ⟨⟨_, Heap.get?_push_of_some _ (Heap.get?_push_size _ rfl), rfl, rfl⟩, (hl.push _).push _⟩ (Heap.get?_push_size _ rfl) fun v g t hv k => ?_⟩
 refine h v g t (by rw [hz] at hv; exact hv) fun b o q => k b o ?_ ?_ (Heap.get?_push_of_some _ (Heap.get?_push_of_some _ q))
 ·exact fun z => absurd (Heap.lt_size q) (by rw [List.mem_singleton.mp z]; exact Nat.lt_irrefl _)
 ·refine Nat.ne_of_lt (Nat.lt_of_lt_of_le (Heap.lt_size q) ?_)
  rw [Heap.size_push]
  exact Nat.le_succ _
end
def Ai (M : Int) (ns : List Int) : Prop := M ∈ ns ∧ ∀ a ∈ ns, M ≤ a
theorem zM {ns : List Int} {its : List Value} {zs : Array (Int × Tok)} (hi : IntsAre its ns) (e : its.toArray = intItems zs) (hne : 0 < ns.length) : 0 < zs.size ∧ Ai (numAt zs (argBest (fun i j => decide (numAt zs i < numAt zs j)) (zs.size - 1))) ns := by
 have hns : ns = zs.toList.map (·.1) := by rw [← hi.numsOf, ← nums_intItems, ← e]
 have hsz : 0 < zs.size := by
  have h3 := hne
  rw [hns, List.length_map, Array.length_toList] at h3
  exact h3
 obtain ⟨h1, h2⟩ := argBest_lt (numAt zs) (zs.size - 1)
 refine ⟨hsz, ?_, fun a ha => ?_⟩
 ·rw [hns, numAt_eq]
  exact getD_mem (by rw [List.length_map, Array.length_toList]; omega)
 ·rw [hns] at ha
  obtain ⟨j, hj, rfl⟩ := mem_getD ha
  rw [List.length_map, Array.length_toList] at hj
  rw [← numAt_eq]
  exact h2 j (by omega)
section
variable {X : Cx}
def Et (K : PySem.W.Frag) (ta : TA) (td : TE) : TE := fun σ H Q => ta σ H fun vs H1 => td σ H1 fun _ H2 => ∃ (p : Addr) (ns : List Int), vs = [.ref p] ∧ SqL K H2 p (ns.map V.int) ∧ 0 < ns.length ∧ ∀ M, Ai M ns → Q (.int M) H2
theorem Cj {a d : Expr} {ta : TA} {td : TE} {p pos kpos : Pos} (hc : X.calm = true) (hg : Gl X "min") (hm : X.mg "min" = none) (ha : PA X [a] ta) (hd : PE X d td)
  (hv : bootBuiltins "min" = some (.builtin "min"))
  (he : backTo pos (starEach [a] X.env) = (false, eval a X.env) :: backTo pos (starEach [] X.env) := by rfl) (hpl : (backTo pos (starEach [a] X.env)).any (·.1) = false := by rfl)
  (hks : (backToKw pos (keywordEach [⟨some (Str.ofString "default"), d, kpos⟩] X.env)).filterMap (·.1) = [Str.ofString "default"] := by rfl)
  (hall : (backToKw pos (keywordEach [⟨some (Str.ofString "default"), d, kpos⟩] X.env)).all (·.1.isSome) = true := by rfl)
  (hkw : (backToKw pos (keywordEach [⟨some (Str.ofString "default"), d, kpos⟩] X.env)).any (·.1.isNone) = false := by rfl) :
  PE X (.Call (.Name "min" p) [a] [⟨some (Str.ofString "default"), d, kpos⟩] pos) (Et X.K ta td) := by
 intro pins s σ H Q I h
 refine wpAny_Call_Name_kw (dD I hg hm hv ?_)
 refine PyProof.Rows.callWith_kw (thn (ha pos pins s σ H _ I h) fun us s1 ⟨vs, H1, I1, r1, q1⟩ => ?_) he hpl hall hkw
 show wpAny _ _ (evalAll ((do let v ← eval d X.env; standAt pos; pure v) :: [])) _ _ s1
 refine wpAny_evalAll_cons (wpAny_bind (thn (hd pins s1 σ H1 _ I1 q1) fun dv s2 ⟨x, H2, I2, _, q2⟩ => wpAny_bind (wpAny_standAt (wpAny_pure (wpAny_evalAll_nil ?_)))))
 obtain ⟨b, ns, rfl, hq, hne, q⟩ := q2
 obtain ⟨u, rfl, rx⟩ := vals1 r1
 cases rx
 rw [hks]
 obtain ⟨its, r', pl, hz⟩ := I2.list hq
 have hi := intsAre_of r'
 obtain ⟨qs, e⟩ := hi.allInts.items
 obtain ⟨hsz, hmn⟩ := zM hi e hne
 refine nM (zs := qs) (I.ok.hd hc) (by rw [← e]; exact pl.isList) hsz fun v g t hv k => ?_
 obtain ⟨t', rfl⟩ := intItems_at hv
 exact ⟨.int _, H2, I2.kept (t' := t) k, ⟨t', rfl⟩, q _ hmn⟩
end
end L2
set_option Elab.async false
set_option linter.all false
set_option maxRecDepth 100000
set_option maxHeartbeats 4000000
namespace L2
open PySem PySem.Spec PyProof.Rows
def Its (lo st : Int) (n : Nat) : It := ⟨fun i _ => i < n, fun i H x H' => H' = H ∧ x = .int (lo + i * st), fun i _ => n ≤ i⟩
theorem rN {P : Program} {w : World} {K : PySem.W.Frag} {tg : Expr} (it : Addr) (lo st : Int) (n : Nat) : Turn P w K tg (Its lo st n) [it] it (fun i h => IsRangeIter h it (lo + (i : Nat) * st) ((n : Int) - (i : Nat)) st) where
 mem := by simp
 obj := fun i h q b hb => by
  have e : b = it := by simpa using hb
  subst e
  exact ⟨_, q, fun v z => by
   have z' : Data.fields _ = Data.cell v := z
   cases z'⟩
 keep := fun i h h' q k => k it (by simp) _ q
 item := by
  intro X hP hw hK hc i pins s σ H E I hf q hg
  subst hP hw hK
  obtain ⟨f0, f1, f2, f3, f4, f5⟩ := hf it (by simp)
  have W := Walks.range (prog := X.prog) (w := X.w) (I.ok.hd hc) it lo st n
  refine W.item i s _ _ hg q fun v h' tk hv q' kk => ?_
  obtain ⟨t, rfl⟩ := hv
  have I1 : Inv X pins σ H { s with heap := h', toks := tk } := I.turned (fun b o hb e => kk b o (by simpa using hb) e) f0 f1 f3 f4 f5
  exact ⟨_, rfl, xG (s := { s with heap := h', toks := tk }) (n := "range_iterator") q' rfl rfl (by decide) ⟨.int (lo + i * st), H, I1, ⟨t, rfl⟩, ⟨rfl, rfl⟩, q', fun b hb => (hf b hb).1⟩⟩
 done := by
  intro X hP hw hK hc i pins s σ H E I hf q hg
  subst hP hw hK
  obtain ⟨f0, f1, f2, f3, f4, f5⟩ := hf it (by simp)
  exact wpAny_pyNext_range_end (I.ok.hd hc) q (by have : n ≤ i := hg; omega) fun h' eb => ⟨rfl, I.turned (t' := s.toks) (fun b o hb e => eb b o hb e) f0 f1 f3 f4 f5⟩
 self := fun _ _ _ _ _ q h => wpAny_pyIter_rangeiter q h
section
variable {X : Cx} {tg : Expr}
def Ez (ta : TA) : TI := fun σ H R => ta σ H fun vs H1 => ∃ b : Nat, vs = [.int 0, .int (b : Int), .int 32] ∧ b < 536870912 ∧ R (Its 0 32 ((b + 31) / 32)) H1
theorem xW (b : Nat) : Builtin.Range.rangeSize 0 b 32 = (((b + 31) / 32 : Nat) : Int) := by
 unfold Builtin.Range.rangeSize
 rw [if_pos (by decide)]
 split <;> omega
theorem kj {p q : Bool} (hp : p = true) (hq : q = true) : (p && q) = true := by rw [hp, hq]; rfl
theorem zQ {b : Nat} (h : b < 536870912) : Builtin.Range.small 0 b 32 = true := by
 unfold Builtin.Range.small Builtin.Range.rangeFitsLong
 rw [xW]
 generalize hn : (((b + 31) / 32 : Nat) : Int) = n
 have h1 : n ≤ 16777216 := by omega
 have h0 : 0 ≤ n := by omega
 have e : (2 : Int) ^ 63 = 9223372036854775808 := by decide
 rw [e, if_pos (by decide)]
 refine kj (kj (kj (kj (by decide) (kj (decide_eq_true ?_) (decide_eq_true ?_))) (by decide)) (kj (decide_eq_true ?_) (decide_eq_true ?_))) ?_
 ·omega
 ·omega
 ·omega
 ·omega
 ·rw [Bool.or_eq_true]
  exact .inr (kj (decide_eq_true (by omega)) (decide_eq_true (by omega)))
theorem yp {a b c : Expr} {ta : TA} {p pos : Pos} (hg : Gl X "range") (hm : X.mg "range" = none) (ha : PA X [a, b, c] ta) (hs : starEach [a, b, c] X.env = [(false, eval a X.env), (false, eval b X.env), (false, eval c X.env)] := by rfl)
  (hs2 : starEach [b, c] X.env = [(false, eval b X.env), (false, eval c X.env)] := by rfl) : PI X tg (.Call (.Name "range" p) [a, b, c] [] pos) (Ez ta) := by
 intro pins s σ H R I h
 refine Call_ (dD I hg hm boot_range (PyProof.Rows.callWith_type1 (thn (ha pos pins s σ H _ I h) fun us s1 ⟨vs, H1, I1, r1, q1⟩ => ?_) (by rw [hs, hs2]) (by rw [hs2]; rfl)))
 obtain ⟨y, e, l1, q⟩ := q1
 subst e
 cases r1 with
 | cons r rr =>
  cases rr with
  | cons r' rr =>
   cases rr with
   | cons r'' rr =>
    cases rr
    obtain ⟨t, rfl⟩ := r
    obtain ⟨t', rfl⟩ := r'
    obtain ⟨t'', rfl⟩ := r''
    refine call_range_3 (by decide) ?_ (.inl (PyProof.noPylong_small (by omega)))
    refine wpAny_pyIter_range (IsRange.new ..) (zQ l1) ?_
    have I2 : Inv X pins σ H1 { s1 with heap := s1.heap.push { cls := .type "range", data := .fields #[.int 0 t, .int y t', .int 32 t''] }, toks := s1.toks } := I1.kept fun b o e => Heap.get?_push_of_some _ e
    refine ⟨(s1.heap.push { cls := .type "range", data := .fields #[.int 0 t, .int y t', .int 32 t''] }).objs.size, [(s1.heap.push { cls := .type "range", data := .fields #[.int 0 t, .int y t', .int 32 t''] }).objs.size], _, _, H1, rfl,
     I2.kept (t' := s1.toks) fun b o e => Heap.get?_push_of_some _ e, rN _ 0 32 ((y + 31) / 32), ?_, fun b hb => ?_, q⟩
    ·have e1 : (0 : Int) + ((0 : Nat) : Int) * 32 = 0 := by decide
     have e2 : (((y + 31) / 32 : Nat) : Int) - ((0 : Nat) : Int) = Builtin.Range.rangeSize 0 y 32 := by rw [xW]; simp
     show IsRangeIter _ _ ((0 : Int) + ((0 : Nat) : Int) * 32) ((((y + 31) / 32 : Nat) : Int) - ((0 : Nat) : Int)) 32
     rw [e1, e2]
     exact Heap.get?_push_size _ rfl
    ·have e : b = (s1.heap.push { cls := .type "range", data := .fields #[.int 0 t, .int y t', .int 32 t''] }).objs.size := by simpa using hb
     subst e
     exact I2.fpOk (Nat.le_refl _) (I2.hok.fresh (Nat.le_refl _))
end
theorem Aj {lo st : Int} {n : Nat} {g : TG} {tb : TS} {D : Ends} {σ : St} {H : Hp} (Pv : Nat → St → Hp → Prop) (h0 : Pv 0 σ H)
  (hs : ∀ (i : Nat) σ H, i < n → Pv i σ H → g (.int (lo + i * st)) σ H fun σ2 H2 => tb { D with nx := Pv (i + 1), ct := Pv (i + 1), bk := D.nx } σ2 H2) (hd : ∀ σ H, Pv n σ H → D.nx σ H) :
  ∃ W : Nat → Nat → St → Hp → Prop, (∃ m, W 0 m σ H) ∧ ∀ i m σ H, W i m σ H →
   ((Its lo st n).stop i H ∧ D.nx σ H) ∨ ((Its lo st n).go i H ∧ ∃ N : St → Hp → Prop, (∀ σ' H', N σ' H' → ∃ m', m' < m ∧ W (i + 1) m' σ' H') ∧ ∀ x H', (Its lo st n).yld i H x H' → g x σ H' fun σ2 H2 => tb { D with nx := N, ct := N, bk := D.nx } σ2 H2) := by
 refine ⟨fun i m σ H => m = n - i ∧ i ≤ n ∧ Pv i σ H, ⟨n, by simp, Nat.zero_le _, h0⟩, ?_⟩
 rintro i m σ H ⟨rfl, hi, p⟩
 by_cases hlt : i < n
 ·refine .inr ⟨hlt, Pv (i + 1), fun σ' H' p' => ⟨n - (i + 1), by omega, rfl, hlt, p'⟩, fun x H' y => ?_⟩
  obtain ⟨rfl, rfl⟩ := y
  exact hs i σ _ hlt p
 ·have e : i = n := by omega
  subst e
  exact .inl ⟨Nat.le_refl _, hd σ H p⟩
def Itv (K : PySem.W.Frag) (a : Addr) (xs : List V) : It :=
 ⟨fun i H => SqL K H a xs ∧ i < xs.length, fun i H x H' => H' = H ∧ xs[xs.length - 1 - i]? = some x, fun i _ => xs.length ≤ i⟩
theorem Ac {P : Program} {w : World} {K : PySem.W.Frag} {tg : Expr} (a it : Addr) (xs : List V) : Turn P w K tg (Itv K a xs) [it] it (fun i h => i ≤ xs.length ∧ h.IsRevIter it a ((xs.length : Int) - 1 - (i : Nat))) where
 mem := by simp
 obj := fun i h st b hb => by
  have e : b = it := by simpa using hb
  subst e
  obtain ⟨_, o, e, c, d⟩ := st
  exact ⟨o, e, fun v z => by rw [d] at z; cases z⟩
 keep := fun i h h' st k => ⟨st.1, st.2.at fun o e => k it (by simp) o e⟩
 item := by
  intro X hP hw hK hc i pins s σ H E I hf st hg
  subst hP hw hK
  obtain ⟨hq, hi⟩ := hg
  obtain ⟨its, rv, p, hz⟩ := I.list hq
  obtain ⟨x, hx⟩ : ∃ x, xs[xs.length - 1 - i]? = some x := ⟨_, List.getElem?_eq_getElem (by omega)⟩
  obtain ⟨u, hu, ru⟩ := rv.get hx
  obtain ⟨f0, f1, f2, f3, f4, f5⟩ := hf it (by simp)
  obtain ⟨hle, st⟩ := st
  have e : (xs.length : Int) - 1 - (i : Nat) = ((xs.length - 1 - i : Nat) : Int) := by omega
  rw [e] at st
  refine wpAny_pyNext_rev_item st p.isList (x := u) (by simpa using hu) fun h' st' sb => ?_
  have I1 : Inv X pins σ H { s with heap := h' } := I.turned (t' := s.toks) (fun b o hb e => (sb.2 b hb).trans e) f0 f1 f3 f4 f5
  have e2 : ((xs.length - 1 - i : Nat) : Int) - 1 = (xs.length : Int) - 1 - ((i + 1 : Nat) : Int) := by omega
  rw [e2] at st'
  obtain ⟨o, e, c, d⟩ := id st'
  exact ⟨u, rfl, xG (s := { s with heap := h' }) e c d (by decide) ⟨x, H, I1, ru, ⟨rfl, hx⟩, ⟨by omega, st'⟩, fun b hb => (hf b hb).1⟩⟩
 done := by
  intro X hP hw hK hc i pins s σ H E I hf st hg
  subst hP hw hK
  obtain ⟨f0, f1, f2, f3, f4, f5⟩ := hf it (by simp)
  obtain ⟨hle, st⟩ := st
  have e : (xs.length : Int) - 1 - (i : Nat) = -1 := by have : xs.length ≤ i := hg; omega
  rw [e] at st
  exact wpAny_pyNext_rev_end (I.ok.hd hc) st fun h' eb => ⟨rfl, I.turned (t' := s.toks) (fun b o hb e => eb b o hb e) f0 f1 f3 f4 f5⟩
 self := fun _ _ _ _ _ st h => wpAny_pyIter_revIter st.2 h
section
variable {X : Cx} {tg : Expr}
def Gv (K : PySem.W.Frag) (ta : TA) : TI := fun σ H R => ta σ H fun vs H1 => ∃ a xs, vs = [.ref a] ∧ SqL K H1 a xs ∧ R (Itv K a xs) H1
theorem zx {a : Expr} {ta : TA} {p pos : Pos} (hg : Gl X "reversed") (hm : X.mg "reversed" = none) (ha : PA X [a] ta) (hv : bootBuiltins "reversed" = some (.type "reversed")) (hs : starEach [a] X.env = [(false, eval a X.env)] := by rfl) :
  PI X tg (.Call (.Name "reversed" p) [a] [] pos) (Gv X.K ta) := by
 intro pins s σ H R I h
 refine Call_ (dD I hg hm hv (PyProof.Rows.callWith_type1 (thn (ha pos pins s σ H _ I h) fun us s1 ⟨vs, H1, I1, r1, q1⟩ => ?_) hs rfl))
 obtain ⟨b, xs, e, hq, q⟩ := q1
 subst e
 obtain ⟨u, rfl, rx⟩ := vals1 r1
 cases rx
 obtain ⟨its, rv, pl, hz⟩ := I1.list hq
 refine call_reversed_list pl.isList ?_
 have hl := rv.length
 have st : ({ s1 with heap := s1.heap.push (revObj b ((its.toArray.size : Int) - 1)) } : Shared).heap.IsRevIter s1.heap.objs.size b ((xs.length : Int) - 1 - ((0 : Nat) : Int)) := by
  refine ⟨_, Heap.get?_push_size _ rfl, rfl, ?_⟩
  show Data.fields #[.ref b, rawInt ((its.toArray.size : Int) - 1)] = _
  have e : (its.toArray.size : Int) - 1 = (xs.length : Int) - 1 - ((0 : Nat) : Int) := by simp; omega
  rw [e]
 refine wpAny_pyIter_revIter st ?_
 have I2 : Inv X pins σ H1 { s1 with heap := s1.heap.push (revObj b ((its.toArray.size : Int) - 1)) } := I1.kept (t' := s1.toks) fun c o e => Heap.get?_push_of_some _ e
 refine ⟨s1.heap.objs.size, [s1.heap.objs.size], _, Itv X.K b xs, H1, rfl, I2, Ac b _ xs, ⟨Nat.zero_le _, st⟩, fun c hc => ?_, q⟩
 have e : c = s1.heap.objs.size := by simpa using hc
 subst e
 exact I1.fpOk (Nat.le_refl _) (I1.hok.fresh (Nat.le_refl _))
end
theorem xK {K : PySem.W.Frag} {a : Addr} {xs : List V} {g : TG} {tb : TS} {D : Ends} {σ : St} {H : Hp} (Pv : Nat → St → Hp → Prop) (h0 : Pv 0 σ H) (hl : ∀ i σ H, i ≤ xs.length → Pv i σ H → SqL K H a xs)
  (hs : ∀ i x σ H, i < xs.length → xs[xs.length - 1 - i]? = some x → Pv i σ H → g x σ H fun σ2 H2 => tb { D with nx := Pv (i + 1), ct := Pv (i + 1), bk := D.nx } σ2 H2) (hd : ∀ σ H, Pv xs.length σ H → D.nx σ H) :
  ∃ W : Nat → Nat → St → Hp → Prop, (∃ m, W 0 m σ H) ∧ ∀ i m σ H, W i m σ H →
   ((Itv K a xs).stop i H ∧ D.nx σ H) ∨ ((Itv K a xs).go i H ∧ ∃ N : St → Hp → Prop, (∀ σ' H', N σ' H' → ∃ m', m' < m ∧ W (i + 1) m' σ' H') ∧ ∀ x H', (Itv K a xs).yld i H x H' → g x σ H' fun σ2 H2 => tb { D with nx := N, ct := N, bk := D.nx } σ2 H2) := by
 refine ⟨fun i m σ H => m = xs.length - i ∧ i ≤ xs.length ∧ Pv i σ H, ⟨xs.length, by simp, Nat.zero_le _, h0⟩, ?_⟩
 rintro i m σ H ⟨rfl, hi, p⟩
 by_cases hlt : i < xs.length
 ·refine .inr ⟨⟨hl i σ H hi p, hlt⟩, Pv (i + 1), fun σ' H' p' => ⟨xs.length - (i + 1), by omega, rfl, hlt, p'⟩, fun x H' y => ?_⟩
  obtain ⟨rfl, hx⟩ := y
  exact hs i x σ _ hlt hx p
 ·have e : i = xs.length := by omega
  subst e
  exact .inl ⟨Nat.le_refl _, hd σ H p⟩
end L2
set_option Elab.async false
set_option linter.all false
set_option maxRecDepth 100000
set_option maxHeartbeats 4000000
namespace L2
open PySem PySem.Spec PyProof.Rows
section
variable {prog : Program} {w : World} {A : Around} {E : Value → Shared → Prop} {s : Shared}
theorem um {T newId initId : String} {Bn Bi : Builtin} {args : List Value} {kw : List (Str × Value)} {S : _root_.PySem.Spec} {Q Q1 : Value → Shared → Prop} (ft : TypeCalled T newId initId)
  (hct : checkTypeCall T ⟨args, kw⟩ = pure ()) (hcn : checkBuiltinCall newId ⟨.type T :: args, kw⟩ = pure ()) (eN : entryFor table newId = some Bn) (eI : entryFor table initId = some Bi)
  (g : Meets (Bn ⟨.type T :: args, kw⟩) S) (h : S A.in1 (wants Q1 E) s)
  (go : ∀ obj s1, Q1 obj s1 → s1.TypeIs obj T ∧ argsOk initId ⟨obj :: args, kw⟩ ∧ ∃ Si, Meets (Bi ⟨obj :: args, kw⟩) Si ∧ Si A.in1 (wants (fun r s2 => r = .none ∧ Q obj s2) E) s1) :
  wpAny (model prog w) A (call (.type T) args kw) Q E s := by
 obtain ⟨c, tl, hmro⟩ := ft.mro
 have hmade := ft.made
 have hsub := ft.sub
 refine wpAny_call (codeAny_of_tree ?_)
 show wpAny _ _ (callAny (.type T) _) _ _ _
 refine wpAny_pure ⟨Code.quiet_builtin _ (by decide +kernel), codeAny_builtin PySem.F.entry_type_call ?_⟩
 rw [Around.under_plain (weight_type_call_type T args kw) (units_type_call_type T args kw)]
 have n1 := ft.notType
 have n2 := ft.canCreate
 repeat (any_goals (first | assumption | wp_step))
 refine codeAny_mono (codeAny_call_builtin ft.plain eN (wpAny_of_eq hcn (g prog w A.in1 _ s h))) fun r s1 hr => ?_
 cases r with
 | error e => exact hr
 | ok fl =>
  cases fl with
  | ret obj =>
   obtain ⟨hT, hok, Si, gi, hsi⟩ := go _ _ hr
   have hli := ft.init.lookup
   have hbi := ft.init.bind obj
   repeat (any_goals (first | assumption | wp_step))
   refine codeAny_mono (codeAny_call_builtin ft.init.plain eI (ft.init.check _ _ _ _ _ _ _ _ hT hok (gi prog w A.in1 _ s1 hsi))) fun r2 s2 hr2 => ?_
   cases r2 with
   | error e => exact hr2
   | ok fl2 =>
    cases fl2 with
    | ret r =>
     obtain ⟨rfl, hq⟩ := hr2
     repeat (any_goals (first | assumption | wp_step))
    | _ => exact hr2.elim
  | _ => exact hr.elim
theorem vD {T newId : String} {self : Value} {rest : List Value} {kw : List (Str × Value)} (hl : typeLookup (.type T) "__init__" = pure (some (.builtin "object.__init__")))
  (hm : Bind.madeBy (.type T) = pure (some newId)) (hne : (some newId != some "object.__new__") = true) :
  Meets (Builtin.«object.__init__» ⟨self :: rest, kw⟩) (fun _ R s => s.TypeIs self T ∧ R (.ok (.ret .none)) s) := by
 refine Meets.of_wp fun prog w A R s hs => ?_
 obtain ⟨hT, hq⟩ := hs
 cases rest with
 | nil =>
  cases kw with
  | nil => exact wpAny_pure ⟨_, rfl, hq⟩
  | cons p kw =>
   repeat (any_goals (first | assumption | wp_step))
   exact ⟨_, rfl, hq⟩
 | cons a rest =>
  repeat (any_goals (first | assumption | wp_step))
  exact ⟨_, rfl, hq⟩
end
theorem wB (a v : Value) : checkTypeCall "enumerate" ⟨[a], [(Str.ofString "start", v)]⟩ = pure () := by kernel_rfl
theorem zg (a v : Value) : checkBuiltinCall "enumerate.__new__" ⟨[.type "enumerate", a], [(Str.ofString "start", v)]⟩ = pure () := by kernel_rfl
theorem vZ (o a v : Value) : argsOk "object.__init__" ⟨[o, a], [(Str.ofString "start", v)]⟩ := by
 unfold argsOk
 rw [signature?_of (id := "object.__init__") (n := ['_', '_', 't', 'i', 'n', 'i', '_', '_']) (o := ['t', 'c', 'e', 'j', 'b', 'o']) (by kernel_rfl) PySem.F.owner_object]
 kernel_rfl
open AutoSeq1 (wpAny_loadPart') in
set_option maxHeartbeats 4000000 in
theorem vy (l : Addr) (items : Array Value) (n : Nat) (dct : Option Addr) (sl : Array (Option Value)) (t : Tok) :
  Meets (Builtin.«enumerate.__new__» ⟨[.type "enumerate", .ref l], [(Str.ofString "start", .int 1 t)]⟩) (fun _ R s => s.heap.get? l = some { cls := .type "list", dict := dct, data := .seq items n, slots := sl } ∧
   R (.ok (.ret (.ref (s.heap.push { cls := .type "list_iterator", data := .fields #[.ref l, .int 0 0] }).objs.size)))
    { s with heap := (s.heap.push { cls := .type "list_iterator", data := .fields #[.ref l, .int 0 0] }).push { cls := .type "enumerate", data := .fields #[.none, .bool false, .ref s.heap.objs.size, rawInt 1, .none, .none] } }) :=
 .of_wp fun prog w A R s h => by
  obtain ⟨hp, g, d, tk, os⟩ := s
  obtain ⟨hl, h⟩ := h
  have hsub := sub_enumerate
  have hL : Heap.IsList (Shared.heap ⟨hp, g, d, tk, os⟩) l items := ⟨_, hl, rfl, n, rfl⟩
  wp_walk using wpAny_loadPart' hl
  refine wpAny_stack_any fun st => wpAny_pure ?_
  split
  ·rename_i c _ _ _ _ _
   cases (c == Value.type "enumerate")
   ·wp_walk using wpAny_loadPart' hl, wpAny_pyIter_list hL
    exact ⟨_, rfl, h⟩
   ·wp_walk using wpAny_loadPart' hl, wpAny_pyIter_list hL
    exact ⟨_, rfl, h⟩
  ·wp_walk using wpAny_loadPart' hl, wpAny_pyIter_list hL
   exact ⟨_, rfl, h⟩
section
variable {prog : Program} {w : World} {A : Around} {E : Value → Shared → Prop} {s : Shared}
theorem wI {l : Addr} {items : Array Value} {t : Tok} {Q : Value → Shared → Prop} (hL : s.heap.IsList l items)
  (h : ∀ g, IsEnum g (s.heap.objs.size + 1) s.heap.objs.size 1 .none → g.IsListIter s.heap.objs.size l 0 → (∀ b o, s.heap.get? b = some o → g.get? b = some o) → Q (.ref (s.heap.objs.size + 1)) { s with heap := g }) :
  wpAny (model prog w) A (call (.type "enumerate") [.ref l] [(Str.ofString "start", .int 1 t)]) Q E s := by
 obtain ⟨⟨c, dct, dt, sl⟩, hl, hc, n, hd⟩ := hL
 replace hc : c = .type "list" := hc
 replace hd : dt = .seq items n := hd
 subst hc hd
 have hz : (s.heap.push { cls := .type "list_iterator", data := .fields #[.ref l, .int 0 0] }).objs.size = s.heap.objs.size + 1 := Heap.size_push ..
 refine um (Q1 := fun obj s1 => s1.TypeIs obj "enumerate" ∧ Q obj s1) PySem.F.called_enumerate (wB _ _) (zg _ _) PySem.F.entry_enumerate_new PySem.F.entry_object_init (vy l items n dct sl t) ⟨hl, ?_⟩ fun obj s1 hq =>
  ⟨hq.1, vZ _ _ _, _, vD PySem.F.called_enumerate.init.lookup PySem.F.called_enumerate.made (by decide), hq.1, rfl, hq.2⟩
 show _ ∧ _
 rw [hz]
 have he : IsEnum ((s.heap.push { cls := .type "list_iterator", data := .fields #[.ref l, .int 0 0] }).push { cls := .type "enumerate", data := .fields #[.none, .bool false, .ref s.heap.objs.size, rawInt 1, .none, .none] }) (s.heap.objs.size + 1) s.heap.objs.size 1 .none := by
  have := Heap.get?_push_size (s.heap.push { cls := .type "list_iterator", data := .fields #[.ref l, .int 0 0] }) (o := { cls := .type "enumerate", data := .fields #[.none, .bool false, .ref s.heap.objs.size, rawInt 1, .none, .none] }) rfl
  rw [hz] at this
  exact this
 exact ⟨⟨_, he, rfl⟩, h _ he ⟨_, Heap.get?_push_of_some _ (Heap.get?_push_size _ rfl), rfl, rfl⟩ fun b o q => Heap.get?_push_of_some _ (Heap.get?_push_of_some _ q)⟩
end
theorem Bg {prog : Program} {w : World} {A : Around} (hh : A.handled = none) (it l : Addr) (hne : l ≠ it) (items : Array Value) :
  Draws prog w A it [it, l] (items.size + 1) (fun i v => ∃ j, i = j + 1 ∧ items[j]? = some v) (fun i h => ∃ j, i = j + 1 ∧ h.IsListIter it l j ∧ h.IsList l items) where
 live := fun _ _ st => by
  obtain ⟨j, _, st⟩ := st
  exact (Draws.list (prog := prog) (w := w) hh it l hne items).live j _ st
 frame := fun _ _ _ st k => by
  obtain ⟨j, e, st⟩ := st
  exact ⟨j, e, (Draws.list (prog := prog) (w := w) hh it l hne items).frame j _ _ st k⟩
 item := fun i s Q E hi st hQ => by
  obtain ⟨j, rfl, st⟩ := st
  exact (Draws.list (prog := prog) (w := w) hh it l hne items).item j s Q E (by omega) st fun x g t p q r => hQ x g t ⟨j, rfl, p⟩ ⟨j + 1, rfl, q⟩ r
 done := fun s Q E st hE => by
  obtain ⟨j, e, st⟩ := st
  have : j = items.size := by omega
  subst this
  exact (Draws.list (prog := prog) (w := w) hh it l hne items).done s Q E st hE
def Itu (K : PySem.W.Frag) (a : Addr) : It :=
  ⟨fun i H => ∃ xs x, SqL K H a xs ∧ xs[i]? = some x, fun i H x H' => ∃ p y, H p = none ∧ x = .ref p ∧ H' = upd H p (.tup [.int ((i + 1 : Nat) : Int), y]) ∧ ∀ xs, SqL K H a xs → xs[i]? = some y,
   fun i H => ∃ xs, SqL K H a xs ∧ xs.length ≤ i⟩
theorem Aw {prog : Program} {w : World} {A : Around} {E : Value → Shared → Prop} {s : Shared} {e it l : Addr} {i : Nat} {k : Int} {items : Array Value} {old : Value} {Q : Option Value → Shared → Prop} (hh : A.handled = none)
  (he : IsEnum s.heap e it k old) (hit : s.heap.IsListIter it l i) (hl : s.heap.IsList l items) (hx : items[i]? = none) (hQ : ∀ g, Heap.ExtBut it s.heap g → Q none { s with heap := g }) : wpAny (model prog w) A (pyNext (.ref e)) Q E s := by
 have hT : s.TypeIs (.ref e) "enumerate" := ⟨_, he, rfl⟩
 unfold pyNext
 refine wpAny_bind (wpAny_attempt (wpAny_callSpecial?_slot (name := Str.ofString "__next__") hT PySem.F.slot_enumerate_next
  (wpAny_call_entry PySem.F.slot_enumerate_next hT PySem.F.entry_enumerate_next ?_ (PySem.F.args_enumerate_next_1 _))))
 show wpAny _ _ (field (.ref e) 2 >>= _) _ _ _
 refine wpAny_bind (wpAny_field he rfl (x := .ref it) rfl ?_)
 refine wpAny_bind (wpAny_nextOf_list_end hh hit hl hx fun g x hg hx' => ?_)
 obtain ⟨o, ho, hc⟩ := hx'
 refine wpAny_bind (wpAny_isInstance (T := "StopIteration") (b := true) ⟨o, ho, hc⟩ isSubtype_stop ?_)
 exact wpAny_pure (hQ _ hg)
theorem nu {h : Heap} {a b : Addr} {o u : Obj} (ho : h.get? a = some o) (hu : h.get? b = some u) (hc : o.cls ≠ u.cls) : a ≠ b := by
 rintro rfl
 rw [ho] at hu
 cases hu
 exact hc rfl
theorem wu {P : Program} {w : World} {K : PySem.W.Frag} {elts : List Expr} {x1 : Nat} {tpos : Pos} (a e it : Addr) (hne : e ≠ it) :
  Turn P w K (.Tuple elts x1 tpos) (Itu K a) [e, it] e (fun i h => (∃ old, IsEnum h e it ((i + 1 : Nat) : Int) old) ∧ h.IsListIter it a i) where
 mem := by simp
 obj := fun i h st b hb => by
  obtain ⟨⟨old, he⟩, o, ho, hc, hd⟩ := st
  rcases List.mem_cons.mp hb with rfl | hb
  ·exact ⟨_, he, fun v z => by cases z⟩
  ·rw [List.mem_singleton.mp hb]
   exact ⟨o, ho, fun v z => by rw [hd] at z; cases z⟩
 keep := fun i h h' st k => by
  obtain ⟨⟨old, he⟩, st⟩ := st
  exact ⟨⟨old, k e (by simp) _ he⟩, st.at fun o q => k it (by simp) o q⟩
 item := by
  intro X hP hw hK hc i pins s σ H E I hf st hg
  subst hP hw hK
  obtain ⟨xs, x, hq, hx⟩ := hg
  obtain ⟨its, rv, p, hz⟩ := I.list hq
  obtain ⟨u, hu, ru⟩ := rv.get hx
  obtain ⟨⟨old, he⟩, st⟩ := st
  obtain ⟨oi, hoi, hci, _⟩ := id st
  obtain ⟨ol, hol, hcl, _⟩ := id p.isList
  have nai : a ≠ it := nu hol hoi (by rw [hcl, hci]; decide)
  have nae : e ≠ a := nu he hol (by rw [hcl]; show Value.type "enumerate" ≠ Value.type "list"; decide)
  have hlt : i < its.length := (List.getElem?_eq_some_iff.mp hu).1
  refine wpAny_pyNext_enum_itemD (Bg (A := X.A.in1) (I.ok.hd hc) it a nai its.toArray) he ⟨i, rfl, st, p.isList⟩ (by simpa using hlt) hne (by simp [hne, nae]) fun u' h1 tk hP heo hit1 ht1 hz1 hk1 => ?_
  obtain ⟨j, hj, hu'⟩ := hP
  have ej : j = i := by omega
  subst ej
  have eu : u' = u := by
   have : its[j]? = some u' := by simpa using hu'
   rw [hu] at this
   exact (Option.some.inj this).symm
  subst eu
  obtain ⟨j', hj', hit1, _⟩ := hit1
  have ej' : j' = j + 1 := by omega
  subst ej'
  refine ⟨_, rfl, wpAny_letOwnedTupleGo_enum heo fun h2 he2 hs2 => ?_⟩
  have ee : e < s.heap.objs.size := Heap.lt_size he
  have g2 : h2.get? s.heap.objs.size = some { cls := .type "tuple", data := .seq #[.int ((j + 1 : Nat) : Int) tk, u'] } := (hs2.2 _ (Nat.ne_of_gt ee)).trans ht1
  have kk : ∀ b o, b ≠ e → b ≠ it → s.heap.get? b = some o → h2.get? b = some o := fun b o h3 h4 q => (hs2.2 b h3).trans (hk1 b o h3 h4 q)
  have new : cj X.prog X.w (upd H s.heap.objs.size (.tup [.int ((j + 1 : Nat) : Int), x])) h2 s.heap.objs.size (.tup [.int ((j + 1 : Nat) : Int), x]) :=
   ⟨(by show 2 ≤ sizeLine; decide), [.int ((j + 1 : Nat) : Int) tk, u'], .cons ⟨_, rfl⟩ (.cons ru .nil), _, g2, rfl, _, rfl⟩
  have I2 := I.turn2 (h' := h2) (t' := tk + 1) (hf e (by simp)) (hf it (by simp)) kk (Nat.le_refl _) new
  have hn : H s.heap.objs.size = none := I.hok.fresh (Nat.le_refl _)
  refine ⟨.ref s.heap.objs.size, _, I2, rfl, ⟨_, x, hn, rfl, rfl, fun ys hy => by rw [I.list_inj hy hq]; exact hx⟩, ⟨⟨u', by simpa using he2⟩, hit1.extBut hs2.extBut (Ne.symm hne)⟩, fun b hb => ?_⟩
  have hbn := (hf b hb).1
  have hbs : b ≠ s.heap.objs.size := by
   rcases List.mem_cons.mp hb with rfl | hb
   ·exact Nat.ne_of_lt ee
   ·rw [List.mem_singleton.mp hb]
    exact Nat.ne_of_lt (Heap.lt_size hoi)
  rw [aC hbs]
  exact hbn
 done := by
  intro X hP hw hK hc i pins s σ H E I hf st hg
  subst hP hw hK
  obtain ⟨xs, hq, hx⟩ := hg
  obtain ⟨its, rv, p, hz⟩ := I.list hq
  obtain ⟨f0, f1, f2, f3, f4, f5⟩ := hf it (by simp)
  obtain ⟨⟨old, he⟩, st⟩ := st
  have hl := rv.length
  obtain ⟨oi, hoi, hci, _⟩ := id st
  obtain ⟨ol, hol, hcl, _⟩ := id p.isList
  have nai : a ≠ it := nu hol hoi (by rw [hcl, hci]; decide)
  refine Aw (I.ok.hd hc) he st p.isList (by simp; omega) fun h' eb => ⟨rfl, I.turned (t' := s.toks) (fun b o hb e => eb b o hb e) f0 f1 f3 f4 f5⟩
 self := fun _ _ _ _ _ st h => by
  obtain ⟨⟨old, he⟩, _⟩ := st
  exact wpAny_pyIter_enum he h
section
variable {M : Model} {A : Around} {E : Value → Shared → Prop} {s : Shared} {env : Env}
theorem pC {pos : Pos} {T : String} {e : Expr} {rest : List Expr} {kws : List Keyword} {Q : Value → Shared → Prop}
  (h : wpAny M A (spliced (backTo pos (starEach (e :: rest) env))) (fun vs s1 => wpAny M A (evalAll ((backToKw pos (keywordEach kws env)).map (·.2)))
   (fun ws s2 => wpAny M A (call (.type T) vs (((backToKw pos (keywordEach kws env)).filterMap (·.1)).zip ws)) Q E s2) E s1) E s)
  (he : backTo pos (starEach (e :: rest) env) = (false, eval e env) :: backTo pos (starEach rest env) := by rfl) (hp : (backTo pos (starEach (e :: rest) env)).any (·.1) = false := by rfl)
  (hall : (backToKw pos (keywordEach kws env)).all (·.1.isSome) = true := by rfl) (hkw : (backToKw pos (keywordEach kws env)).any (·.1.isNone) = false := by rfl) :
  wpAny M A (callWith pos (.type T) [] (backTo pos (starEach (e :: rest) env)) (backToKw pos (keywordEach kws env))) Q E s := by
 unfold callWith
 have h2 : wpAny M A (evalArgs (.type T) true (backTo pos (starEach (e :: rest) env)) (backToKw pos (keywordEach kws env))) (fun a s1 => wpAny M A (call (.type T) ([] ++ a.pos) a.kw) Q E s1) E s := by
  rw [he] at h ⊢
  exact PyProof.Rows.evalArgs_kwB hall h
 refine wpAny_bind (wpAny_holding (thn h2 fun a s1 h1 => wpAny_bind (wpAny_standAt ?_)))
 simp only [hp, hkw, Bool.or_false]
 refine wpAny_bind (wpAny_pure ?_)
 exact wpAny_bind (thn h1 fun r s2 hr => wpAny_bind (wpAny_holding (wpAny_point (wpAny_pure hr))))
end
section
variable {X : Cx}
def DN (K : PySem.W.Frag) (ta : TA) (td : TE) : TI := fun σ H R => ta σ H fun vs H1 => td σ H1 fun d H2 => ∃ a xs, d = .int 1 ∧ vs = [.ref a] ∧ SqL K H2 a xs ∧ R (Itu K a) H2
theorem vo {a d : Expr} {ta : TA} {td : TE} {p pos kpos : Pos} {elts : List Expr} {x1 : Nat} {tpos : Pos} (hg : Gl X "enumerate") (hm : X.mg "enumerate" = none) (ha : PA X [a] ta) (hd : PE X d td)
  (he : backTo pos (starEach [a] X.env) = (false, eval a X.env) :: backTo pos (starEach [] X.env) := by rfl) (hpl : (backTo pos (starEach [a] X.env)).any (·.1) = false := by rfl)
  (hks : (backToKw pos (keywordEach [⟨some (Str.ofString "start"), d, kpos⟩] X.env)).filterMap (·.1) = [Str.ofString "start"] := by rfl)
  (hall : (backToKw pos (keywordEach [⟨some (Str.ofString "start"), d, kpos⟩] X.env)).all (·.1.isSome) = true := by rfl)
  (hkw : (backToKw pos (keywordEach [⟨some (Str.ofString "start"), d, kpos⟩] X.env)).any (·.1.isNone) = false := by rfl) :
  PI X (.Tuple elts x1 tpos) (.Call (.Name "enumerate" p) [a] [⟨some (Str.ofString "start"), d, kpos⟩] pos) (DN X.K ta td) := by
 intro pins s σ H R I h
 refine wpAny_Call_Name_kw (dD I hg hm boot_enumerate ?_)
 refine pC (thn (ha pos pins s σ H _ I h) fun us s1 ⟨vs, H1, I1, r1, q1⟩ => ?_) he hpl hall hkw
 show wpAny _ _ (evalAll ((do let v ← eval d X.env; standAt pos; pure v) :: [])) _ _ s1
 refine wpAny_evalAll_cons (wpAny_bind (thn (hd pins s1 σ H1 _ I1 q1) fun dv s2 ⟨x, H2, I2, rd, q2⟩ => wpAny_bind (wpAny_standAt (wpAny_pure (wpAny_evalAll_nil ?_)))))
 obtain ⟨b, xs, rfl, rfl, hq, q⟩ := q2
 obtain ⟨u, rfl, rx⟩ := vals1 r1
 cases rx
 obtain ⟨td', rfl⟩ := rd
 rw [hks]
 obtain ⟨its, rv, pl, hz⟩ := I2.list hq
 refine wI pl.isList fun g he2 hit hk => ?_
 refine wpAny_pyIter_enum he2 ?_
 have I3 : Inv X pins σ H2 { s2 with heap := g } := I2.kept (t' := s2.toks) hk
 have ne : s2.heap.objs.size + 1 ≠ s2.heap.objs.size := by omega
 refine ⟨s2.heap.objs.size + 1, [s2.heap.objs.size + 1, s2.heap.objs.size], _, Itu X.K b, H2, rfl, I3, wu b _ _ ne, ⟨⟨_, he2⟩, hit⟩, fun c hc => ?_, q⟩
 have hle : s2.heap.objs.size ≤ c := by
  rcases List.mem_cons.mp hc with rfl | hc
  ·omega
  ·rw [List.mem_singleton.mp hc]
   omega
 exact I2.fpOk hle (I2.hok.fresh hle)
end
theorem rB {K : PySem.W.Frag} {a : Addr} {xs : List V} {g : TG} {tb : TS} {D : Ends} {σ : St} {H : Hp} (Pv : Nat → St → Hp → Prop) (h0 : Pv 0 σ H) (hl : ∀ i σ H, i ≤ xs.length → Pv i σ H → SqL K H a xs)
  (hs : ∀ i x σ H p, xs[i]? = some x → Pv i σ H → H p = none → g (.ref p) σ (upd H p (.tup [.int ((i + 1 : Nat) : Int), x])) fun σ2 H2 => tb { D with nx := Pv (i + 1), ct := Pv (i + 1), bk := D.nx } σ2 H2) (hd : ∀ σ H, Pv xs.length σ H → D.nx σ H) :
  ∃ W : Nat → Nat → St → Hp → Prop, (∃ m, W 0 m σ H) ∧ ∀ i m σ H, W i m σ H →
   ((Itu K a).stop i H ∧ D.nx σ H) ∨ ((Itu K a).go i H ∧ ∃ N : St → Hp → Prop, (∀ σ' H', N σ' H' → ∃ m', m' < m ∧ W (i + 1) m' σ' H') ∧ ∀ x H', (Itu K a).yld i H x H' → g x σ H' fun σ2 H2 => tb { D with nx := N, ct := N, bk := D.nx } σ2 H2) := by
 refine ⟨fun i m σ H => m = xs.length - i ∧ i ≤ xs.length ∧ Pv i σ H, ⟨xs.length, by simp, Nat.zero_le _, h0⟩, ?_⟩
 rintro i m σ H ⟨rfl, hi, p⟩
 have q := hl i σ H hi p
 by_cases hlt : i < xs.length
 ·refine .inr ⟨⟨xs, xs[i], q, by simp [hlt]⟩, Pv (i + 1), fun σ' H' p' => ⟨xs.length - (i + 1), by omega, rfl, hlt, p'⟩, fun x H' y => ?_⟩
  obtain ⟨c, y, hn, e1, e2, hy⟩ := y
  subst e1 e2
  exact hs i y σ H c (hy xs q) p hn
 ·have e : i = xs.length := by omega
  subst e
  exact .inl ⟨⟨xs, q, Nat.le_refl _⟩, hd σ H p⟩
end L2
set_option Elab.async false
set_option linter.all false
set_option maxRecDepth 100000
set_option maxHeartbeats 4000000
namespace L2
open PySem PySem.Spec PyProof.Rows
mutual
inductive kO (K : PySem.W.Frag) (H : Hp) : V → PyData → Prop where
 | non : kO K H .non .none
 | bl (b : Bool) : kO K H (.bl b) (.bool b)
 | int (i : Int) : kO K H (.int i) (.int i)
 | str (x : Str) : kO K H (.str x) (.str x)
 | lst {a : Addr} {xs : List V} {ds : List PyData} (h : SqL K H a xs) (r : gW K H xs ds) : kO K H (.ref a) (.list ds)
 | tup {a : Addr} {xs : List V} {ds : List PyData} (h : SqT K H a xs) (r : gW K H xs ds) : kO K H (.ref a) (.tuple ds)
inductive gW (K : PySem.W.Frag) (H : Hp) : List V → List PyData → Prop where
 | nil : gW K H [] []
 | cons {x : V} {xs : List V} {d : PyData} {ds : List PyData} (h : kO K H x d) (r : gW K H xs ds) : gW K H (x :: xs) (d :: ds)
end
section
variable {X : Cx} {pins : List (Addr × Obj)} {σ : St} {H : Hp} {s : Shared}
mutual
theorem kO.reads (I : Inv X pins σ H s) {x : V} {d : PyData} {u : Value} : kO X.K H x d → RelV x u → ∃ as, Reads s.heap u d as
 | .non, r => ⟨_, by cases (show u = Value.none from r); exact .none⟩
 | .bl b, r => ⟨_, by cases (show u = Value.bool b from r); exact .bool b⟩
 | .int i, r => by
  obtain ⟨t, rfl⟩ := r
  exact ⟨_, .int i t⟩
 | .str y, r => by
  obtain ⟨t, rfl⟩ := r
  exact ⟨_, .str y t⟩
 | .lst (a := a) h q, r => by
  cases (show u = Value.ref a from r)
  obtain ⟨its, rv, p, _⟩ := I.list h
  obtain ⟨as, ra⟩ := gW.reads I q rv
  obtain ⟨o, n, e, c, _, d⟩ := p
  exact ⟨_, .list e c d (by simpa using ra)⟩
 | .tup (a := a) h q, r => by
  cases (show u = Value.ref a from r)
  obtain ⟨its, rv, p, _⟩ := I.tuple h
  obtain ⟨as, ra⟩ := gW.reads I q rv
  obtain ⟨o, e, c, n, d⟩ := p
  exact ⟨_, .tuple e c d (by simpa using ra)⟩
theorem gW.reads (I : Inv X pins σ H s) {xs : List V} {ds : List PyData} {us : List Value} : gW X.K H xs ds → Vals xs us → ∃ as, ReadsAll s.heap us ds as
 | .nil, r => by
  cases r
  exact ⟨_, .nil⟩
 | .cons h q, r => by
  cases r with
  | cons r1 r2 =>
   obtain ⟨as, ra⟩ := kO.reads I h r1
   obtain ⟨bs, rb⟩ := gW.reads I q r2
   exact ⟨_, .cons ra rb⟩
end
end
def Gu (K : PySem.W.Frag) : R2 := fun x y H Q => ∃ (a b : Addr) (ns ms : List Int), x = .ref a ∧ y = .ref b ∧ SqL K H a (ns.map V.int) ∧ SqL K H b (ms.map V.int) ∧ Q (.bl (decide (ns = ms))) H
def Gj (K : PySem.W.Frag) : R2 := fun x y H Q => ∃ d1 d2 : PyData, kO K H x d1 ∧ kO K H y d2 ∧ SeqAt.shaped d1 = true ∧ SeqAt.shaped d2 = true ∧ Q (.bl (PyData.eqv d1 d2)) H
def FP (K : PySem.W.Frag) : R2 := fun x y H Q => ∃ (a b : Addr) (ns ms : List Int), x = .ref a ∧ y = .ref b ∧ SqL K H a (ns.map V.int) ∧ SqL K H b (ms.map V.int) ∧ Q (.bl (!decide (ns = ms))) H
def Gw (K : PySem.W.Frag) : R2 := fun x y H Q => ∃ d1 d2 : PyData, kO K H x d1 ∧ kO K H y d2 ∧ SeqAt.shaped d1 = true ∧ SeqAt.shaped d2 = true ∧ Q (.bl (!PyData.eqv d1 d2)) H
section
variable {X : Cx}
theorem En (hu : X.A.units + 64 < cLine) : OpR X (compareOp .Eq) (fun x y H Q => Gu X.K x y H Q ∨ Gj X.K x y H Q) := by
 intro pins s σ H x y u v Q I rx ry h
 rcases h with ⟨a, b, ns, ms, rfl, rfl, ha, hb, q⟩ | ⟨d1, d2, h1, h2, e1, e2, q⟩
 ·cases (show u = Value.ref a from rx)
  cases (show v = Value.ref b from ry)
  obtain ⟨us, r1, p1, _⟩ := I.list ha
  obtain ⟨ws, r2, p2, _⟩ := I.list hb
  exact PySem.W.ke_eq_ints p1.isList p2.isList (intsAre_of r1) (intsAre_of r2) hu ⟨.bl _, H, I, rfl, q⟩
 ·obtain ⟨as, ra⟩ := h1.reads I rx
  obtain ⟨bs, rb⟩ := h2.reads I ry
  exact eq_dataH ra rb e1 e2 hu ⟨.bl _, H, I, rfl, q⟩
theorem wg (hu : X.A.units + 64 < cLine) : OpR X (compareOp .NotEq) (fun x y H Q => FP X.K x y H Q ∨ Gw X.K x y H Q) := by
 intro pins s σ H x y u v Q I rx ry h
 rcases h with ⟨a, b, ns, ms, rfl, rfl, ha, hb, q⟩ | ⟨d1, d2, h1, h2, e1, e2, q⟩
 ·cases (show u = Value.ref a from rx)
  cases (show v = Value.ref b from ry)
  obtain ⟨us, r1, p1, _⟩ := I.list ha
  obtain ⟨ws, r2, p2, _⟩ := I.list hb
  exact PySem.W.ke_ne_ints p1.isList p2.isList (intsAre_of r1) (intsAre_of r2) hu ⟨.bl _, H, I, rfl, q⟩
 ·obtain ⟨as, ra⟩ := h1.reads I rx
  obtain ⟨bs, rb⟩ := h2.reads I ry
  exact ne_dataH ra rb e1 e2 hu ⟨.bl _, H, I, rfl, q⟩
end
end L2
set_option Elab.async false
set_option linter.all false
set_option maxRecDepth 100000
set_option maxHeartbeats 4000000
namespace Tw
open PySem L2
theorem yw {lo : Int} {n : Nat} {cap : L2.St} {tt : TT} {te : TE} {Qf : Addr → Hp → Prop} {H : Hp} (f : Nat → Int) (hl : n < sizeLine)
  (htt : ∀ (z : Int) (H' : Hp) (Q : Bool → Hp → Prop), Q true H' → tt (some (.int z) :: cap) H' Q) (hte : ∀ (i : Nat) (H' : Hp) (Q : VK), i < n → aQ H H' → Q (.int (f i)) H' → te (some (.int (lo + i)) :: cap) H' Q)
  (q : ∀ D, H D = none → Qf D (upd H D (.lst (((List.range n).map f).map V.int)))) : vX (Itr lo n) cap tt te Qf H := by
 intro D hD
 refine ⟨fun i m ys H1 => m = n - i ∧ i ≤ n ∧ ys = ((List.range i).map f).map V.int ∧ H1 = upd H D (.lst ys), ⟨_, rfl, Nat.zero_le _, rfl, rfl⟩, ?_⟩
 rintro i m ys H1 ⟨rfl, hi, rfl, rfl⟩
 by_cases hlt : i < n
 ·refine .inr ⟨hlt, fun v H2 y => ?_⟩
  obtain ⟨rfl, rfl⟩ := y
  refine htt _ _ _ ?_
  rw [if_pos rfl]
  refine hte i _ _ hlt (aA hD _) ⟨ak, ?_, n - (i + 1), by omega, rfl, hlt, ?_, ?_⟩
  ·rw [List.length_map, List.length_map, List.length_range]
   omega
  ·rw [List.range_succ, List.map_append, List.map_append]
   rfl
  ·rw [jO]
 ·have e : i = n := by omega
  subst e
  exact .inl ⟨Nat.le_refl _, q D hD⟩
theorem Dr {H : Hp} {a : Addr} {o : HO} (h : H a = some o) : upd H a o = H := funext fun b => by
 by_cases e : b = a
 ·rw [e, ak, h]
 ·rw [aC e]
end Tw
namespace Tw
open PySem L2
theorem Dv {c A : Prop} [Decidable c] {D : Ends} {σ : St} {H : Hp} (R : St → Hp → Prop) (hR : R σ H) (h : ∀ σ' H', R σ' H' → D.nx σ' H') (hA : c → (∀ σ' H', R σ' H' → D.nx σ' H') → A) : if c then A else zX D σ H := by
 by_cases q : c
 ·rw [if_pos q]
  exact hA q h
 ·rw [if_neg q]
  exact h _ _ hR
theorem xP {c A : Prop} [Decidable c] {D : Ends} {σ : St} {H : Hp} (R : St → Hp → Prop) (hR : ¬ c → R σ H) (h : ∀ σ' H', R σ' H' → D.nx σ' H') (hA : c → (∀ σ' H', R σ' H' → D.nx σ' H') → A) : if c then A else zX D σ H := by
 by_cases q : c
 ·rw [if_pos q]
  exact hA q h
 ·rw [if_neg q]
  exact h _ _ (hR q)
theorem xH {t : TA} {i : Nat} {k : Int} {xs : List V} {σ : St} {H : Hp} {Q : VK} (ht : ∀ Q' : List V → Hp → Prop, Q' xs H → t σ H Q') (e : σ[i]? = some (some (.int k))) (hk : k ≤ 100000) (hx : xs.length ≤ 2) (h0 : -100000 ≤ k)
  (q : ∀ p H', H p = none → aQ H H' → H' p = some (.lst (List.replicate k.toNat xs).flatten) → Q (.ref p) H') : tOp Fx (Fw t) (Dz i) σ H Q := by
 refine ht _ ⟨by rw [sizeLine_eq]; omega, fun p hp => ⟨_, e, p, k, xs, rfl, rfl, ak, by omega, by omega, ?_, fun r hr => q r _ ((aA hp _).free hr) ((aA hp _).trans (aA hr _)) ak⟩⟩
 rw [sizeLine_eq]
 have : k.toNat ≤ 100000 := by omega
 have := Nat.mul_le_mul hx this
 omega
end Tw
namespace L2
open PySem PySem.Spec PyProof.Rows PySem.W
section
variable {X : Cx}
end
end L2
namespace Tw
open PySem L2
end Tw
namespace Tw
open PySem L2
end Tw
set_option Elab.async false
set_option linter.all false
set_option maxRecDepth 100000
set_option maxHeartbeats 4000000
namespace L2
open PySem PySem.Spec PyProof.Rows
theorem cj.ex {P : Program} {w : World} {H : Hp} {h : Heap} {a : Addr} {o : HO} (x : cj P w H h a o) : ∃ ob, h.get? a = some ob := by
 induction o with
 | lst xs => obtain ⟨z, its, n, r, e⟩ := x; exact ⟨_, e⟩
 | tup xs => obtain ⟨z, its, r, ob, e, c⟩ := x; exact ⟨_, e⟩
 | dK kvs => obtain ⟨z, y, vs, r, ob, es, ep, e, c⟩ := x; exact ⟨_, e⟩
 | dT kvs => obtain ⟨z, y, xs, r, ob, es, ep, e, c⟩ := x; exact ⟨_, e⟩
 | set S n => obtain ⟨ob, es, ep, t, e, c⟩ := x; exact ⟨_, e⟩
 | ins C dx fs => obtain ⟨d, z, ne, e, _⟩ := x; exact ⟨_, e⟩
 | own y => exact x
 | xd fs => obtain ⟨mA, ⟨od, es, ep, e, c⟩, r⟩ := x; exact ⟨_, e⟩
 | rng lo hi => obtain ⟨t, u, v, e⟩ := x; exact ⟨_, e⟩
 | frz ob u ih => exact ⟨_, x.1⟩
 | tbl ps => exact ⟨_, x⟩
 | met f y => exact ⟨_, x⟩
 | ext φ => exact x.2.1
structure Cov (B : Heap) (fs : List Addr) (H H' : Hp) (h : Heap) : Prop where
 old : ∀ b o, h.get? b = some o → b ∉ fs → ∃ o', B.get? b = some o' ∧ (H b = none → o' = o)
 trk : ∀ b u, H' b = some u → ∃ o, B.get? b = some o
def CX1 (P : Program) (w : World) : CXT := fun outer H s E e s' => ∃ (ea C t : Addr) (B : Heap) (H' : Hp), e = .ref ea ∧ s'.os = s.os ∧ AllBare s'.gens ∧ Un (frs outer) [] H H' s.heap s'.heap ∧ HOk P w H' s'.heap ∧
  Heap.FlyingW B outer ea (.ref C) (.ref t) s'.heap ∧ Cov B (frs outer) H H' s.heap ∧ E (.ref C) none H'
section
variable {P : Program} {w : World} {K : PySem.W.Frag} {mg : Str → Option Value} {base : Heap} {N : List Str} {qual : Str} {scope : Scope} {f : Addr} {cd : Value} {A : Around} {outer : List Env} {s0 : Shared} {H0 : Hp} {E : XK}
abbrev X1 (P : Program) (w : World) (K : PySem.W.Frag) (mg : Str → Option Value) (base : Heap) (N : List Str) (qual : Str) (scope : Scope) (f : Addr) (cd : Value) (A : Around) (outer : List Env) (s0 : Shared) (H0 : Hp) (E : XK) : Cx :=
 gh (CX1 P w) P w K mg base N qual scope f cd A outer s0 H0 E
theorem young {b : Addr} {o : Obj} (q : s0.heap.get? b = some o) (hb : b ∉ frs outer) : b ∉ frs (envOfC qual scope s0.heap.objs.size f cd :: outer) := fun z => by
 have z' : b ∈ s0.heap.objs.size :: frs outer := z
 rcases List.mem_cons.mp z' with e | e
 ·exact absurd (Heap.lt_size q) (by rw [e]; exact Nat.lt_irrefl _)
 ·exact hb e
theorem raised {pins : List (Addr × Obj)} {σ : St} {H : Hp} {s : Shared} {h1 : Heap} {ea C : Addr} {vs : List Value} (I : Inv (X1 P w K mg base N qual scope f cd A outer s0 H0 E) pins σ H s) (m : Heap.MadeExcOf s.heap h1 ea (.ref C) vs) (q : E (.ref C) none H) :
  (X1 P w K mg base N qual scope f cd A outer s0 H0 E).xe (.ref ea) { s with heap := h1 } := by
 have stk : s.heap.FunFrames base (envOfC qual scope s0.heap.objs.size f cd :: outer) := I.stack
 have hin : ∀ env ∈ (envOfC qual scope s0.heap.objs.size f cd :: outer), ∀ b, env.frame = some b → b ∈ frs (envOfC qual scope s0.heap.objs.size f cd :: outer) := fun env he b hb => List.mem_filterMap.mpr ⟨env, he, hb⟩
 have U : Un (frs outer) [] H0 H s0.heap s.heap := I.base
 have nofr : ∀ b u, H b = some u → b ∉ frs (envOfC qual scope s0.heap.objs.size f cd :: outer) := fun b u e z => by
  have := I.stkFree b z
  rw [this] at e
  cases e
 have inB : ∀ b o, s.heap.get? b = some o → b ∉ frs (envOfC qual scope s0.heap.objs.size f cd :: outer) → (PySem.W.hideAll s.heap (frs (envOfC qual scope s0.heap.objs.size f cd :: outer))).get? b = some o := fun b o e n => PySem.W.hideAll_get _ e n
 show wpAny _ _ (leaving _ _) _ _ _
 refine wpAny_leaves_madeW (base := PySem.W.hideAll s.heap (frs (envOfC qual scope s0.heap.objs.size f cd :: outer))) I.ok.frames rfl (fun b o e => PySem.W.of_hideAll _ e) (PySem.W.funFrames_hide stk hin) m fun h2 t x1 x2 x3 x4 => ?_
 have kept := x1.1
 have fr : ∀ b o, s.heap.get? b = some o → b ∈ frs outer → ∃ sl, h2.get? b = some { o with slots := sl } := fun b o e hb => by
  obtain ⟨_, o', ho', nf⟩ := stk.mem (b := b) (List.mem_cons_of_mem _ hb)
  rw [e] at ho'
  cases ho'
  exact x4 b o (m.keeps _ _ e) nf
 refine ⟨ea, C, t, _, H, rfl, I.os, I.bare, ⟨fun b o e n hb hx => ?_, fun b o e n hb hx => ?_, U.free, fun b o e hx => ?_, U.tups, U.frzs, U.tbls⟩, fun b u e => ?_, x1, ⟨fun b o e hb => ?_, fun b u e => ?_⟩, q⟩
 ·exact kept b o (inB b o (U.keep b o e n hb hx) (young e hb))
 ·obtain ⟨sl, e1⟩ := U.slot b o e n hb hx
  obtain ⟨sl', e2⟩ := fr b _ e1 hb
  exact ⟨sl', e2⟩
 ·obtain ⟨o1, e1⟩ := U.there b o e hx
  by_cases hb : b ∈ frs outer
  ·obtain ⟨sl, e2⟩ := fr b _ e1 hb
   exact ⟨_, e2⟩
  ·exact ⟨o1, kept b o1 (inB b o1 e1 (young e hb))⟩
 ·refine (I.hok b u e).stay (fun c o hc e1 => kept c o (inB c o e1 ?_)) (fun _ r => r) fun _ _ r => r
  rcases hc with rfl | hc
  ·exact nofr _ _ e
  ·exact nofr _ _ hc
 ·obtain ⟨o1, e1⟩ := U.there b o e (by simp)
  refine ⟨o1, inB b o1 e1 (young e hb), fun n => ?_⟩
  have := U.keep b o e n hb (by simp)
  rw [e1] at this
  exact Option.some.inj this
 ·obtain ⟨o, e1⟩ := (I.hok b u e).ex
  exact ⟨o, inB b o e1 (nofr b u e)⟩
theorem Cz : gk (CX1 P w) (X1 P w K mg base N qual scope f cd A outer s0 H0 E) E := by
 intro pins σ H s e s' I h
 obtain ⟨ea, C, t, B, H', rfl, os, bare, un, hok, fl, cov, q⟩ := h
 have U : Un (frs outer) [] H0 H s0.heap s.heap := I.base
 show wpAny _ _ (leaving _ _) _ _ _
 refine wpAny_leaves_onW (base := B) I.ok.frames rfl fl fun h2 x1 x2 => ?_
 have kept := x1.1
 have fr : ∀ b o, s'.heap.get? b = some o → b ∈ frs outer → ∃ sl, h2.get? b = some { o with slots := sl } := fun b o e hb => by
  obtain ⟨_, o', ho', nf⟩ := fl.2.2.1.mem (b := b) (List.mem_cons_of_mem _ hb)
  rw [e] at ho'
  cases ho'
  exact x2 b o e nf
 refine ⟨ea, C, t, B, H', rfl, os.trans I.os, bare, ⟨fun b o e n hb hx => ?_, fun b o e n hb hx => ?_, fun b o e n hx => ?_, fun b o e hx => ?_, fun b xs e => un.tups b xs (U.tups b xs e), fun b o u e => un.frzs b o u (U.frzs b o u e), fun b ps e => ?_⟩, fun b u e => ?_, x1, ⟨fun b o e hb => ?_, cov.trk⟩, q⟩
 ·obtain ⟨o', e2, z⟩ := cov.old b o (U.keep b o e n hb hx) (young e hb)
  rw [z (U.free b o e n hx)] at e2
  exact kept b o e2
 ·obtain ⟨sl, e1⟩ := U.slot b o e n hb hx
  obtain ⟨sl', e2⟩ := un.slot b _ e1 (U.free b o e n hx) (List.mem_cons_of_mem _ hb) hx
  obtain ⟨sl2, e3⟩ := fr b _ e2 hb
  exact ⟨sl2, e3⟩
 ·obtain ⟨o1, e1⟩ := U.there b o e hx
  exact un.free b o1 e1 (U.free b o e n hx) hx
 ·obtain ⟨o1, e1⟩ := U.there b o e hx
  by_cases hb : b ∈ frs outer
  ·obtain ⟨o2, e2⟩ := un.there b o1 e1 hx
   obtain ⟨sl, e3⟩ := fr b _ e2 hb
   exact ⟨_, e3⟩
  ·obtain ⟨o', e2, _⟩ := cov.old b o1 e1 (young e hb)
   exact ⟨o', kept b o' e2⟩
 ·obtain ⟨m1, e1⟩ := U.tbls b ps e
  obtain ⟨m2, e2⟩ := un.tbls b _ e1
  exact ⟨m1 ++ m2, by rw [e2, Array.append_assoc]⟩
 ·refine (hok b u e).stay (fun c o hc e1 => ?_) (fun _ r => r) fun _ _ r => r
  have ht : ∃ o, B.get? c = some o := by
   rcases hc with rfl | hc
   ·exact cov.trk _ _ e
   ·exact cov.trk _ _ hc
  obtain ⟨o1, e2⟩ := ht
  have := fl.1 c o1 e2
  rw [e1] at this
  cases this
  exact kept c o e2
 ·obtain ⟨o1, e1⟩ := U.there b o e (by simp)
  obtain ⟨o', e2, z⟩ := cov.old b o1 e1 (young e hb)
  refine ⟨o', e2, fun n => ?_⟩
  have := U.keep b o e n hb (by simp)
  rw [e1] at this
  rw [z (U.free b o e n (by simp))]
  exact Option.some.inj this
end
section
variable {P : Program} {w : World} {K : PySem.W.Frag} {mg : Str → Option Value} {base : Heap}
theorem Fun.ok1 {x qual : Str} {st : Stmt} {f : Addr} {fd : FuncData} {N ps : List Str} {k : Nat} {sp : Sp} (F : Fun K x qual st f fd) (S : aF N ps (defScope st)) (len : ∀ vs H Q E, sp vs H Q E → vs.length = ps.length)
  (hbody : ∀ (cdv : Value) (A : Around) (outer : List Env) (s : Shared) (H : Hp) (vs : List V) (Q : VK) (E : XK), cJ k (A.deeper (envOfC qual (defScope st) s.heap.objs.size f cdv)) → sp vs H Q E →
   ∃ t, PSs (X1 P w K mg base N qual (defScope st) f cdv A outer s H E) (defBody st) t ∧ t { nx := fun _ H' => Q .non H', rt := Q } (start N vs) H) : aW P w K mg base (CX1 P w) (k + 1) f fd ps sp := by
 obtain ⟨oc, od, kV, doc, pm, an, cdv, ct, osl, rfl, lk, hcd⟩ := F.ex
 exact CZ lk hcd S len fun A outer s H vs Q E hr hsp => hbody cdv A outer s H vs Q E hr hsp
end
abbrev bmV : List Value := [.type "ValueError", .type "Exception", .type "BaseException", .type "object"]
structure Exc (K : PySem.W.Frag) (mg : Str → Option Value) (x : Str) (C : Addr) : Prop where
 m : mg x = some (.ref C)
 q : PySem.W.excIn K C bmV "ValueError.__new__" = true
theorem xN {K : PySem.W.Frag} {h : Heap} {C : Addr} (X : K.In h) (q : PySem.W.excIn K C bmV "ValueError.__new__" = true) :
  ∃ bm N nm qn bs hdct sn sub ab col dd k0 k1 k2 k3 k5 mN, h.get? C = some (excClassObj nm qn C N bs bm hdct sn sub ab col dd k0 k1 k2 k3 k5 "ValueError.__new__") ∧ h.Ns N mN ∧ mN "__init__" = none ∧ OwnTail h bmV bm := by
 unfold PySem.W.excIn at q
 split at q
 ·rename_i dd cd sl ho
  split at q
  ·rename_i C' bm k0 k1 k2 k3 n k5 hm hs
   simp only [Bool.and_eq_true, beq_iff_eq, Bool.not_eq_true'] at q
   obtain ⟨⟨⟨⟨⟨rfl, rfl⟩, hdel⟩, ht⟩, hok⟩, hni⟩ := q
   obtain ⟨nm, bs, mro, ns, qn, hd, sn, sub, ab, col, del⟩ := cd
   dsimp only at hm hdel hok hni
   subst hm hdel
   have hsl : sl = #[k0, k1, k2, k3, some (.builtin "ValueError.__new__"), k5] := by
    obtain ⟨l⟩ := sl
    simp only at hs
    rw [hs]
   subst hsl
   exact ⟨bm, ns, nm, qn, bs, hd, sn, sub, ab, col, dd, k0, k1, k2, k3, k5, _, X _ _ ho, .of_isNs (PySem.W.isNs_of_in X hok), PySem.W.nsMap_none_of_in X hok hni, PySem.W.tail_of_in X ht⟩
  ·cases q
 ·cases q
section
variable {P : Program} {w : World} {K : PySem.W.Frag} {mg : Str → Option Value} {base : Heap} {N : List Str} {qual : Str} {scope : Scope} {f : Addr} {cd : Value} {A : Around} {outer : List Env} {s0 : Shared} {H0 : Hp} {E : XK}
def Em (C : Addr) (E : XK) (ta : TA) : TS := fun _ σ H => ta σ H fun vs H1 => vs.length ≤ sizeLine ∧ E (.ref C) none H1
theorem zT {x : Str} {C : Addr} {a : Expr} {ta : TA} {np cpos pos : Pos} (e : Exc K mg x C) (hg : Gl (X1 P w K mg base N qual scope f cd A outer s0 H0 E) x) (ha : PA (X1 P w K mg base N qual scope f cd A outer s0 H0 E) [a] ta)
  (hdb : (x == ("__debug__" : Str)) = false := by decide)
  (he : starEach [a] (X1 P w K mg base N qual scope f cd A outer s0 H0 E).env = [(false, eval a (X1 P w K mg base N qual scope f cd A outer s0 H0 E).env)] := by rfl) :
  PS (X1 P w K mg base N qual scope f cd A outer s0 H0 E) (.Raise (some (.Call (.Name x np) [a] [] cpos)) none pos) (Em C E ta) := by
 intro pins s σ H D I h
 obtain ⟨bm, N', nm, qn, bs, hdct, sn, sub, ab, col, dd, k0, k1, k2, k3, k5, mN, hC, hN, hni, T⟩ := xN I.mod.kin e.q
 refine wpAny_Raise_call_subU (C := C) (nm := nm) (q := qn) (N := N') (bs := bs) (bm := bm) (hdct := hdct) (sn := sn) (sub := sub) (ab := ab) (col := col) (dd := dd) (k0 := k0) (k1 := k1) (k2 := k2) (k3 := k3) (k5 := k5)
  PySem.F.excBase_ValueError PySem.F.excBase_ValueError.hasB PySem.F.excBase_ValueError (mN := mN) (T.hasType PySem.F.excBase_ValueError.hasBase) (I.ok.hd rfl) (by rw [he]; rfl) hni (lU I hg e.m ⟨rfl, ?_⟩ hdb)
 have h2 := ha cpos pins s σ H _ I h
 rw [he] at h2 ⊢
 refine Calls.evalArgs_plain (thn h2 fun us s2 ⟨vs, H2, I2, r2, q1, q2⟩ => ⟨rfl, ?_, I2.bk _ _ hC, hN.keeps I2.bk, T.keeps I2.bk, fun h' ea m => raised I2 m q2⟩)
 rw [← r2.length]
 exact q1
end
def wz (ea C : Addr) : HO := .ext fun h => ∃ o vs, h.get? ea = some o ∧ o.cls = .ref C ∧ o.data = .fields vs
structure qJ (K : PySem.W.Frag) (C : Addr) : Prop where
 dct : PySem.W.hasDictIn K C = true
 ga : PySem.W.findIn K (.ref C) "__getattribute__" = some (some (.builtin "BaseException.__getattribute__"))
 nga : PySem.W.findIn K (.ref C) "__getattr__" = some none
 cl : PySem.W.findIn K (.ref C) "__class__" = some (some (.builtin "object.__class__"))
 gt : PySem.W.specialIn K (.builtin "object.__class__") "__get__" = some (some (.builtin "getset_descriptor.__get__"))
 tk : PySem.W.takesIn K (.builtin "object.__class__") = some true
 mo : PySem.W.mroIn K C (.type "object") = some true
 mb : PySem.W.mroIn K C (.type "BaseException") = some true
def Cx.suite (X : Cx) (ea : Addr) : Cx := { X with A := X.A.mark (some (.ref ea)), calm := false, xe := fun _ _ => False }
section
variable {X : Cx} {pins : List (Addr × Obj)} {σ : St} {H : Hp} {s : Shared} {ea : Addr}
theorem Cx.Ok.suite (ok : X.Ok) : (X.suite ea).Ok :=
 ⟨ok.mod, ok.kind, ok.glob, ok.blt, ok.above, ok.inj, ok.has, ok.cab, fun z => absurd z Bool.false_ne_true, ok.frames, ok.stk, ok.exf, ok.bs, ok.bsz, ok.noex, ok.exfs, ok.funs, ok.frf⟩
theorem Inv.suite (I : Inv X pins σ H s) : Inv (X.suite ea) pins σ H s := ⟨I.ok.suite, I.os, I.bare, I.base, I.loc, I.cell, I.free, I.freeC, I.pin, I.hok, I.len⟩
theorem Inv.unsuite (ok : X.Ok) (I : Inv (X.suite ea) pins σ H s) : Inv X pins σ H s := ⟨ok, I.os, I.bare, I.base, I.loc, I.cell, I.free, I.freeC, I.pin, I.hok, I.len⟩
theorem name_goes {M : Model} {A : Around} {E : Value → Shared → Prop} {i : Nat} {n : Str} {pos : Pos} {Q : Unit → Shared → Prop} (I : Inv X pins σ H s) (hN : X.N.Nodup) (hi : X.N[i]? = some n) (hl : X.env.scope.names.lookup n = some .local)
  (h : ∀ s', Inv X pins (σ.set i none) H s' → Q () s') : wpAny M A (do bindName X.env n .none; unbindBehindTheSuite X.env n pos) Q E s := by
 obtain ⟨m, hn, hloc⟩ := id I.loc
 have hcls : (X.env.scope.kind == .class || (X.env.scope.kind == .module && X.env.locals != X.env.globals)) = false := by rw [I.ok.kind]; rfl
 have hiσ : i < σ.length := by rw [I.len]; exact (List.getElem?_eq_some_iff.mp hi).1
 have cne := I.cne
 obtain ⟨oL, _, _, hoL, _⟩ := id hn
 refine wpAny_nameGoes_keeps hl hn hcls fun h' v hn' hs => ?_
 have old : ∀ b o, X.s₀.heap.get? b = some o → b ≠ X.env.locals := fun b o e => Nat.ne_of_lt (Nat.lt_of_lt_of_le (Heap.lt_size e) I.ok.above)
 refine h _ ⟨I.ok, I.os, I.bare, ⟨fun b o e n' hb hx => ?_, fun b o e n' hb hx => ?_, I.base.free, fun b o e hx => ?_, I.base.tups, I.base.frzs, I.base.tbls⟩, ⟨_, hn', fun j y v' e1 e2 e3 => ?_⟩, fun y c e => ?_, I.free, I.freeC, fun p hp => ?_, fun b ob e => ?_, by simpa using I.len⟩
 ·exact (hs.2 b (old b o e)).trans (I.base.keep b o e n' hb hx)
 ·obtain ⟨sl, e1⟩ := I.base.slot b o e n' hb hx
  exact ⟨sl, (hs.2 b (old b o e)).trans e1⟩
 ·obtain ⟨o', e1⟩ := I.base.there b o e hx
  exact ⟨o', (hs.2 b (old b o e)).trans e1⟩
 ·by_cases hj : j = i
  ·subst hj
   rw [List.getElem?_set_self hiσ] at e2
   cases e2
  ·rw [List.getElem?_set_ne (Ne.symm hj)] at e2
   obtain ⟨u', r', q⟩ := hloc j y v' e1 e2 e3
   refine ⟨u', r', ?_⟩
   rcases q with ⟨k, e⟩ | ⟨k, c, e, z⟩
   ·refine .inl ⟨k, ?_⟩
    have : y ≠ n := fun e => hj (pX hN e1 (e ▸ hi))
    simp [this, e]
   ·exact .inr ⟨k, c, e, z.sameBut hs (cne y c e)⟩
 ·obtain ⟨w', z⟩ := I.cell y c e
  exact ⟨w', z.sameBut hs (cne y c e)⟩
 ·obtain ⟨e, n', ne, nf, d⟩ := I.pin p hp
  exact ⟨(hs.2 p.1 ne).trans e, n', ne, nf, d⟩
 ·refine (I.hok b ob e).stay (fun c w' hc q => (hs.2 c ?_).trans q) (fun _ q => q) fun _ _ q => q
  intro z
  rcases hc with hc | hc
  ·rw [← hc, z, I.free] at e
   cases e
  ·rw [z, I.free] at hc
   cases hc
theorem landed {C t : Addr} {B : Heap} {H' : Hp} {s' : Shared} {h6 : Heap} (I : Inv X pins σ H s) (os : s'.os = s.os) (bare : AllBare s'.gens) (un : Un (frs X.stack) [] H H' s.heap s'.heap) (hok : HOk X.prog X.w H' s'.heap)
  (fl : Heap.FlyingW B X.stack ea (.ref C) (.ref t) s'.heap) (cov : Cov B (frs X.stack) H H' s.heap) (fl6 : Heap.FlyingW B X.stack ea (.ref C) (.ref t) h6) (up : s'.heap.UpToSlots h6) :
  H' ea = none ∧ Inv X pins σ (upd H' ea (wz ea C)) { s' with heap := h6 } := by
 have nea : H' ea = none := by
  cases q : H' ea with
  | none => rfl
  | some u =>
   obtain ⟨o, e⟩ := cov.trk ea u q
   rw [fl.2.1] at e
   cases e
 obtain ⟨oe, vs, hoe, hoc, hod, _⟩ := fl6.first
 have fresh : s.heap.get? ea = none := by
  cases q : s.heap.get? ea with
  | none => rfl
  | some o =>
   by_cases hb : ea ∈ frs X.stack
   ·obtain ⟨_, o', ho', nf⟩ := fl6.2.2.1.mem hb
    rw [hoe] at ho'
    cases ho'
    exact absurd hod (nf vs)
   ·obtain ⟨o', e, _⟩ := cov.old ea o q hb
    rw [fl.2.1] at e
    cases e
 have fr : ∀ b o, s'.heap.get? b = some o → b ∈ frs X.stack → ∃ sl, h6.get? b = some { o with slots := sl } := fun b o e hb => by
  obtain ⟨_, o', ho', nf⟩ := fl.2.2.1.mem hb
  rw [e] at ho'
  cases ho'
  exact up b o e nf
 have ne : ∀ b u, H' b = some u → b ≠ ea := fun b u e => aB e nea
 refine ⟨nea, I.call' (ch := []) os ⟨fun b o e n hb hx => ?_, fun b o e n hb hx => ?_, fun b o e n hx => ?_, fun b o e hx => ?_, fun b xs e => ?_, fun b o u e => ?_, fun b ps e => ?_⟩ (fun b u e => ?_) bare fun b z => absurd z (by simp)⟩
 ·obtain ⟨o', e2, z⟩ := cov.old b o e hb
  rw [z n] at e2
  exact fl6.1 b o e2
 ·obtain ⟨sl, e1⟩ := un.slot b o e n hb hx
  obtain ⟨sl2, e2⟩ := fr b _ e1 hb
  exact ⟨sl2, e2⟩
 ·have : b ≠ ea := fun z => by rw [z, fresh] at e; cases e
  rw [aC this]
  exact un.free b o e n hx
 ·by_cases hb : b ∈ frs X.stack
  ·obtain ⟨o1, e1⟩ := un.there b o e hx
   obtain ⟨sl, e2⟩ := fr b _ e1 hb
   exact ⟨_, e2⟩
  ·obtain ⟨o', e2, _⟩ := cov.old b o e hb
   exact ⟨o', fl6.1 b o' e2⟩
 ·have q := un.tups b xs e
  rw [aC (ne b _ q)]
  exact q
 ·have q := un.frzs b o u e
  rw [aC (ne b _ q)]
  exact q
 ·obtain ⟨more, q⟩ := un.tbls b ps e
  exact ⟨more, by rw [aC (ne b _ q)]; exact q⟩
 ·by_cases hb : b = ea
  ·subst hb
   rw [ak] at e
   cases e
   refine ⟨⟨oe, vs, hoe, hoc, hod⟩, ⟨oe, hoe⟩, fun h1 h2 p k => ?_⟩
   obtain ⟨o, ws, e1, e2, e3⟩ := p
   exact ⟨o, ws, k o e1, e2, e3⟩
  ·rw [aC hb] at e
   refine (hok b u e).stay (fun c o hc e1 => ?_) (fun c r => by rw [aC (ne c _ r)]; exact r) fun c xs r => by rw [aC (ne c _ r)]; exact r
   have ht : ∃ o, B.get? c = some o := by
    rcases hc with rfl | hc
    ·exact cov.trk _ _ e
    ·exact cov.trk _ _ hc
   obtain ⟨o1, e2⟩ := ht
   have := fl.1 c o1 e2
   rw [e1] at this
   cases this
   exact fl6.1 c o e2
end
section
variable {K : PySem.W.Frag} {x C : Addr}
def ExcAt (x C : Addr) (h : Heap) : Prop := ∃ o vs, h.get? x = some o ∧ o.cls = .ref C ∧ o.data = .fields vs
theorem pL {M : Model} {h : Heap} (p : ExcAt x C h) : PySem.W.Looks M h (typeOf (.ref x)) (.ref C) := by
 obtain ⟨o, vs, h1, h2, _⟩ := p
 exact h2 ▸ (PySem.W.Looks.ld h1).andThen .now
end
end L2
namespace L2
open PySem PySem.Spec PyProof.Rows PySem.W Builtin Builtin.ObjectAttr Builtin.Getset_descriptor
section
variable {K : PySem.W.Frag} {x C : Addr}
theorem Bc {M : Model} {h : Heap} (X : K.In h) (k : qJ K C) : Looks M h (find (.ref x) (.ref C) "__class__") (.bind (.builtin "getset_descriptor.__get__") (.builtin "object.__class__")) := by
 refine (looks_findIn X k.cl).andThen ?_
 refine Looks.andThen (show Looks M h (getOf (some (.builtin "object.__class__"))) (some (.builtin "getset_descriptor.__get__")) from looks_specialIn X k.gt) ?_
 exact (show Looks M h (dataDescriptor? (some (.builtin "object.__class__")) (some (.builtin "getset_descriptor.__get__"))) (some (.builtin "getset_descriptor.__get__", .builtin "object.__class__")) from (looks_takesIn X k.tk).andThen .now).andThen (Looks.tag .now)
variable {prog : Program} {w : World} {A : Around} {E : Value → Shared → Prop} {s : Shared} {R : Result → Shared → Prop}
theorem zu {tp : Value} (X : K.In s.heap) (p : ExcAt x C s.heap) (k : qJ K C) (h : R (.ok (.ret (.ref C))) s) :
  codeAny (model prog w) A (.call (.builtin "getset_descriptor.__get__") ⟨[.builtin "object.__class__", .ref x, tp], []⟩) R s := by
 obtain ⟨hh, g, dr, t, os⟩ := s
 have L0 := pL (M := model prog w) p
 have L1 := looks_mroIn (M := model prog w) X k.mo
 refine codeAny_call_builtin KF.slot_gs.plain KF.entry_gs (KF.slot_gs.check _ _ _ _ _ _ _ _ KF.type_class (KF.args_gs _ _ _) ?_)
 unfold Builtin.«getset_descriptor.__get__» Builtin.Getset_descriptor.descrGet
 rw [dga_obj]
 refine wpAny_bind (wpAny_pure ?_)
 unfold descrGetter descrCheckInstance descrNameAndClass isInstance
 simp only [KF.owner_class]
 repeat lk
 refine ⟨Code.quiet_builtin _ (by decide +kernel), codeAny_builtin KF.entry_class ?_⟩
 unfold Builtin.«object.__class__» shownTypeOf
 repeat lk
 exact h
theorem Dw {tk : Tok} (X : K.In s.heap) (p : ExcAt x C s.heap) (k : qJ K C) (h : R (.ok (.ret (.ref C))) s) :
  codeAny (model prog w) A (.call (.builtin "BaseException.__getattribute__") ⟨[.ref x, .str "__class__" tk], []⟩) R s := by
 obtain ⟨hh, g, dr, t, os⟩ := s
 have L0 := pL (M := model prog w) p
 have L1 := looks_mroIn (M := model prog w) X k.mb
 have LI : Looks (model prog w) hh (isInstance (.ref x) (.type "BaseException")) true := L0.andThen L1
 have LF := Bc (M := model prog w) (x := x) X k
 refine codeAny_call_builtin (by decide +kernel) PySem.F.entry_bexc_ga ?_
 have hk : builtinKind "BaseException.__getattribute__" = some .slot := by decide +kernel
 have hsplit : splitId "BaseException.__getattribute__" = some ("BaseException", "__getattribute__") := by decide +kernel
 have ha := PySem.F.args_bexc_ga (.ref x) (.str "__class__" tk)
 simp only [checkBuiltinCall, hk, hsplit]
 refine wpAny_bind (LI.at ?_)
 rw [if_neg (by decide)]
 have go : wpAny (model prog w) A.in1 («object.__getattribute__» ⟨[.ref x, .str "__class__" tk], []⟩) (fun fin s' => match fin with | .done f => R (.ok f) s' | .again c' => c'.quiet = true ∧ codeAny (model prog w) A c' R s') (fun e s' => R (.error e) s') ⟨hh, g, dr, t, os⟩ := by
  refine wpAny_bind (wpAny_pure (wpAny_bind (wpAny_pure (wpAny_bind (L0.at (wpAny_bind (LF.at ?_)))))))
  show wpAny _ _ (call (.builtin "getset_descriptor.__get__") [.builtin "object.__class__", .ref x, .ref C] >>= ret) _ _ _
  exact wpAny_bind (wpAny_call (zu X p k (wpAny_pure h)))
 cases hsig : Manifest.signature? "BaseException.__getattribute__" with
 | none => exact wpAny_pure go
 | some sig =>
  have ha' : Bind.checkArgs "BaseException.__getattribute__" sig ⟨[.ref x, .str "__class__" tk], []⟩ = pure () := by simpa only [argsOk, hsig] using ha
  simp only [ha']
  exact wpAny_pure go
theorem yR {Q : Option Value → Shared → Prop} (X : K.In s.heap) (p : ExcAt x C s.heap) (k : qJ K C) (h : Q (some (.ref C)) { s with toks := s.toks + 1 }) : wpAny (model prog w) A (getAttr? (.ref x) "__class__") Q E s := by
 obtain ⟨hh, g, dr, t, os⟩ := s
 have L0 := pL (M := model prog w) p
 have L1 := looks_findIn (M := model prog w) X k.ga
 have L2 := looks_findIn (M := model prog w) X k.nga
 have f3 := PySem.F.attrBase_ValueError.ga.bind (.ref x)
 unfold getAttr? getAttrBy? getAttrBy
 refine wpAny_bind (wpAny_mkText (wpAny_bind (wpAny_attempt (wpAny_holding (wpAny_bind (L0.at (wpAny_bind (L1.at ?_))))))))
 show wpAny _ _ (getAttrByItsOwn _ _ _ _ _ _) _ _ _
 unfold getAttrByItsOwn
 refine wpAny_bind (L2.at (wpAny_bind (wpAny_attempt (wpAny_holding ?_))))
 show wpAny _ _ (boundAndCalled _ _ _) _ _ _
 unfold boundAndCalled
 exact wpAny_bind (wpAny_of_eq f3 (wpAny_call (Dw (s := ⟨hh, g, dr, t + 1, os⟩) X p k (wpAny_pure (wpAny_pure h)))))
theorem vp (k : qJ K C) : KitX K (.ref x) (.ref C) (ExcAt x C) where
 ty := fun _ _ _ p => pL p
 it := fun _ _ X _ => by
  obtain ⟨cdD, hcD, _⟩ := any_some k.dct
  unfold clsIn at hcD
  split at hcD
  ·rename_i c' d' cd' sl' ho
   intro A' Q' E' s' kk q
   unfold isType loadHead
   exact wpAny_bind (wpAny_loadPart (kk _ _ (X _ _ ho)) (wpAny_pure q))
  ·cases hcD
 ne := fun h tp dd its n sl X htp => by
  obtain ⟨cdD, hcD, _⟩ := any_some k.dct
  refine Bool.eq_false_iff.mpr fun q => ?_
  have e : C = tp := Value.ref.inj (beq_iff_eq.mp q)
  subst e
  unfold clsIn at hcD
  split at hcD
  ·rename_i c' d' cd' sl' ho
   have z := (X _ _ ho).symm.trans htp
   cases z
  ·cases hcD
 ca := fun X p h => yR X p k h
end
section
variable {X : Cx}
theorem zU {pins : List (Addr × Obj)} {σ : St} {H : Hp} {s : Shared} {ea C : Addr} (I : Inv X pins σ H s) (h : H ea = some (wz ea C)) : ExcAt ea C s.heap := (I.hok ea _ h).1
abbrev Dc (K : PySem.W.Frag) (xs : List V) (H : Hp) (Q : VK) : Prop := ∃ (ea C : Addr) (d : V) (c : Value) (b : Bool), xs = [.ref ea, d] ∧ ((∃ D, d = .ref D ∧ c = .ref D) ∨ ∃ T, d = .ty T ∧ c = .type T) ∧ H ea = some (wz ea C) ∧ qJ K C ∧ kitOne K (.ref C) c = some b ∧ Q (.bl b) H
theorem uY : gB X (.builtin "isinstance") (Dc X.K) := by
 intro pins s σ H xs us Q I r h
 obtain ⟨ea, C, d, c, b, rfl, hd, he, k, e, q⟩ := h
 obtain ⟨u, v, rfl, ru, rv⟩ := vals2 r
 cases (show u = Value.ref ea from ru)
 have ev : v = c := by
  rcases hd with ⟨D, rfl, rfl⟩ | ⟨T, rfl, rfl⟩
  ·exact rv
  ·exact rv
 subst ev
 exact kia_one (vp k) I.kIn (zU I he) e (fun z => nomatch z) fun tk => ⟨.bl b, H, I.tok tk, rfl, q⟩
theorem yd : ∀ {cs : List Addr} {us : List Value}, Vals (cs.map V.ref) us → us = cs.map Value.ref
 | [], _, r => by cases r; rfl
 | c :: cs, _, r => by
  cases r with
  | cons r1 r2 => rw [yd r2, List.map_cons]; cases r1; rfl
abbrev Cq (K : PySem.W.Frag) (xs : List V) (H : Hp) (Q : VK) : Prop := ∃ (ea C tp : Addr) (cs : List Addr) (b : Bool), xs = [.ref ea, .ref tp] ∧ H tp = some (.tup (cs.map V.ref)) ∧ H ea = some (wz ea C) ∧ qJ K C ∧ kitAny K (.ref C) (cs.map Value.ref) = some b ∧ Q (.bl b) H
theorem za : gB X (.builtin "isinstance") (Cq X.K) := by
 intro pins s σ H xs us Q I r h
 obtain ⟨ea, C, tp, cs, b, rfl, ht, he, k, e, q⟩ := h
 obtain ⟨u, v, rfl, ru, rv⟩ := vals2 r
 cases (show u = Value.ref ea from ru)
 cases (show v = Value.ref tp from rv)
 obtain ⟨_, its, r2, o, h1, h2, n, h3⟩ := I.hok tp _ ht
 rw [yd r2] at h3
 obtain ⟨cl, dd, dt, sl⟩ := o
 simp only at h2 h3
 subst h2 h3
 exact kia_tup (vp k) I.kIn (zU I he) h1 e (fun z => nomatch z) fun tk => ⟨.bl b, H, I.tok tk, rfl, q⟩
end
theorem Cy {P : Program} {w : World} {X : Cx} : gk (CX1 P w) X (fun _ _ _ => False) := fun _ _ _ _ _ _ _ h => by
 obtain ⟨_, _, _, _, _, _, _, _, _, _, _, _, z⟩ := h
 exact z.elim
end L2
set_option Elab.async false
set_option linter.all false
set_option maxRecDepth 100000
set_option maxHeartbeats 4000000
namespace L2
open PySem PySem.Spec PyProof.Rows PySem.W
def Fj (K : PySem.W.Frag) (te tk : TE) : TE := fun σ H Q => te σ H fun x H1 => tk σ H1 fun y H2 => y = .int (-1) ∧ ∃ a xs, x = .ref a ∧ SqL K H2 a xs ∧ ∀ p, H2 p = none → Q (.ref p) (upd H2 p (.lst xs.reverse))
theorem Bf {X : Cx} {e k : Expr} {te tk : TE} {p2 pos : Pos} (he : PE X e te) (hk : PE X k tk) : PE X (.Subscript e (.Slice none none (some k) p2) pos) (Fj X.K te tk) := by
 intro pins s σ H Q I h
 refine Subscript_ (thn (he pins s σ H _ I h) fun v s1 ⟨x, H1, I1, r1, q1⟩ => ?_)
 refine wpAny_Slice ?_
 rw [evalPart_none]
 refine wpAny_pure ?_
 refine wpAny_pure ?_
 rw [evalPart_some]
 refine thn (hk pins s1 σ H1 _ I1 q1) fun vk s3 ⟨y, H3, I3, ry, q3⟩ => ?_
 obtain ⟨rfl, a, xs, rfl, hx, q⟩ := q3
 obtain ⟨tk0, rfl⟩ := ry
 cases r1
 have I4 : Inv X pins σ H3 { s3 with heap := s3.heap.push { cls := .type "slice", data := .fields #[.none, .none, .int (-1) tk0] } } := I3.kept (t' := s3.toks) fun b ob q => Heap.get?_push_of_some _ q
 obtain ⟨its, r, ht, hz⟩ := I4.list hx
 have hlen := r.length
 show wpAny (model X.prog X.w) X.A (subscriptTail e (.Slice none none (some k) p2) (.ref a) (.ref s3.heap.objs.size)) (EP X pins σ Q) X.xe { s3 with heap := s3.heap.push { cls := .type "slice", data := .fields #[.none, .none, .int (-1) tk0] } }
 refine tail_any (ops := [.ref a, .ref s3.heap.objs.size]) ht.isList.typeIs slot_list_getitem.lookup ?_ (by with_unfolding_all rfl)
 refine wpAny_getItem_list_slice ht.isList (Heap.IsSliceOf.new ..) .none .none (.int (-1) tk0) (by decide) ?_ (by rw [List.size_toArray]; omega)
 rw [krv_pick]
 refine ⟨.ref _, _, I4.laid (t' := s3.toks) (o := .lst xs.reverse) (fun b ob q => Heap.get?_push_of_some _ q) (Nat.le_refl _) ?_, rfl, q _ (I4.hok.fresh (Nat.le_refl _))⟩
 refine ⟨by rw [List.length_reverse]; exact hz, its.reverse, 0, r.reverse, ?_⟩
 exact Heap.get?_push_size _ rfl
def Cx.tr (X : Cx) (pins : List (Addr × Obj)) (E : XK) : Cx := { X with pn := X.pn ++ pins, xe := fun e s' => ∃ σ H s, Inv X pins σ H s ∧ CX1 X.prog X.w X.stack H s E e s' }
section
variable {X : Cx} {pins pins' : List (Addr × Obj)} {E : XK} {σ : St} {H : Hp} {s : Shared}
theorem Cx.Ok.tr (ok : X.Ok) : (X.tr pins E).Ok :=
 ⟨ok.mod, ok.kind, ok.glob, ok.blt, ok.above, ok.inj, ok.has, ok.cab, ok.hd, ok.frames, ok.stk, ok.exf, ok.bs, ok.bsz, ok.noex, ok.exfs, ok.funs, ok.frf⟩
theorem Cx.Ok.untr (ok : (X.tr pins E).Ok) : X.Ok :=
 ⟨ok.mod, ok.kind, ok.glob, ok.blt, ok.above, ok.inj, ok.has, ok.cab, ok.hd, ok.frames, ok.stk, ok.exf, ok.bs, ok.bsz, ok.noex, ok.exfs, ok.funs, ok.frf⟩
theorem Inv.tr (I : Inv X pins σ H s) : Inv (X.tr pins E) [] σ H s :=
 ⟨I.ok.tr, I.os, I.bare, I.base, I.loc, I.cell, I.free, I.freeC, fun p hp => I.pin p (by
  have hp' : p ∈ (X.pn ++ pins) ++ [] := hp
  rwa [List.append_nil] at hp'), I.hok, I.len⟩
theorem Inv.untr (I : Inv (X.tr pins E) pins' σ H s) : Inv X pins σ H s :=
 ⟨I.ok.untr, I.os, I.bare, I.base, I.loc, I.cell, I.free, I.freeC, fun p hp => I.pin p (List.mem_append_left _ hp), I.hok, I.len⟩
theorem Fi : gk (CX1 X.prog X.w) (X.tr pins E) E := fun _ σ H s _ _ I h => ⟨σ, H, s, I.untr, h⟩
theorem SP.untr {D : Ends} {f : Flow} {s' : Shared} (h : SP (X.tr pins E) [] D f s') : SP X pins D f s' := by
 cases f with
 | next => obtain ⟨σ, H, I, q⟩ := h; exact ⟨σ, H, I.untr, q⟩
 | ret v => obtain ⟨x, σ, H, I, r, q⟩ := h; exact ⟨x, σ, H, I.untr, r, q⟩
 | brk => obtain ⟨σ, H, I, q⟩ := h; exact ⟨σ, H, I.untr, q⟩
 | cont => obtain ⟨σ, H, I, q⟩ := h; exact ⟨σ, H, I.untr, q⟩
end
abbrev TH := Addr → Ends → St → Hp → Prop
def PH (X : Cx) (hs : List ExceptHandler) (th : TH) : Prop := ∀ (pins : List (Addr × Obj)) (ea C t : Addr) (B : Heap) (H' : Hp) (s' : Shared) (σ : St) (D : Ends) (h5 : Heap),
 (∀ h6, Heap.FlyingW B X.stack ea (.ref C) (.ref t) h6 → s'.heap.UpToSlots h6 → Inv X pins σ (upd H' ea (wz ea C)) { s' with heap := h6 }) →
 Heap.FlyingW B X.stack ea (.ref C) (.ref t) h5 → s'.heap.UpToSlots h5 → H' ea = none → th C D σ H' →
 wpAny (model X.prog X.w) X.A (handleBy (.ref ea) X.env hs) (SP X pins D) X.xe { s' with heap := h5 }
def Gg : TH := fun _ _ _ _ => False
theorem Eh {X : Cx} : PH X [] Gg := fun _ _ _ _ _ _ _ _ _ _ _ _ _ _ z => z.elim
theorem Dt {X : Cx} {Cw ea C t : Addr} {B : Heap} {h5 : Heap} {s' : Shared} {cx : Str} {b : Bool} {pins : List (Addr × Obj)} {σ : St} {H : Hp} (ex : Exc X.K X.mg cx Cw) (exk : qJ X.K Cw) (I5 : Inv X pins σ H { s' with heap := h5 })
  (fl5 : Heap.FlyingW B X.stack ea (.ref C) (.ref t) h5) (hsub : kitOne X.K (.ref C) (.ref Cw) = some b) {M : Model} {A : Around} {Q : Bool → Shared → Prop} {E : Value → Shared → Prop} (qq : Q b { s' with heap := h5 }) :
  wpAny M A (excMatches (.ref ea) (.ref Cw)) Q E { s' with heap := h5 } := by
 obtain ⟨oe, vs5, hoe, hoc, hod, _⟩ := fl5.first
 by_cases eC : C = Cw
 ·subst eC
  have hb : b = true := by
   unfold kitOne at hsub
   rw [if_pos (by simp)] at hsub
   exact (Option.some.inj hsub).symm
  subst hb
  obtain ⟨bm, N', nm, qn, bs, hdct, sn, sub, ab, col, dd, k0, k1, k2, k3, k5, mN, hC, hN', hni, T⟩ := xN I5.kIn ex.q
  exact wpAny_excMatches_sub_self hC hoe hoc (T.hasType PySem.F.excBase_ValueError.hasBase) qq
 ·have hx : exmOne X.K (.ref C) (.ref Cw) = some b := by
   unfold exmOne
   rw [if_pos (beq_iff_eq.mpr (show subIn X.K (.ref Cw) (.type "BaseException") = some true from exk.mb))]
   unfold kitOne at hsub
   rw [if_neg (by simpa using eC)] at hsub
   exact hsub
  exact (exm_one (M := M) I5.kIn (pL ⟨oe, vs5, hoe, hoc, hod⟩) hx).at qq
def hAs (K : PySem.W.Frag) (i : Nat) (Cw : Addr) (ts : TS) (th : TH) : TH := fun C D σ H => ∃ b, kitOne K (.ref C) (.ref Cw) = some b ∧ if b = true then (∀ ea, H ea = none →
 ts { nx := fun σ3 H3 => D.nx (σ3.set i none) H3, rt := fun _ _ => False } (σ.set i (some (.ref ea))) (upd H ea (wz ea C))) else th C D σ H
theorem Fv {X : Cx} {Cw : Addr} {cx n : Str} {np hpos : Pos} {i : Nat} {b0 : Stmt} {suite : List Stmt} {ts : TS} {rest : List ExceptHandler} {th : TH}
  (ex : Exc X.K X.mg cx Cw) (exk : qJ X.K Cw) (hgc : Gl X cx) (hN : X.N.Nodup) (hi : X.N[i]? = some n) (hn : X.env.scope.names.lookup n = some .local)
  (hs : ∀ ea, PSs (X.suite ea) (b0 :: suite) ts) (hr : PH X rest th) (hdc : (cx == ("__debug__" : Str)) = false := by decide) :
  PH X (.ExceptHandler (some (.Name cx np)) (some n) (b0 :: suite) hpos :: rest) (hAs X.K i Cw ts th) := by
 intro pins ea C t B H' s' σ D h5 L fl5 up5 nea q
 obtain ⟨b, hsub, q⟩ := q
 have I5 := L h5 fl5 up5
 refine wpAny_handleBy_cons (codeAny_handlers_test (lU (X := X.suite ea) I5.suite hgc ex.m ?_ hdc)) (by intro z; cases z)
 refine Dt ex exk I5 fl5 hsub ?_
 cases b with
 | false =>
  rw [if_neg Bool.false_ne_true] at q
  exact hr pins ea C t B H' s' σ D h5 L fl5 up5 nea q
 | true =>
  rw [if_pos rfl] at q
  refine codeAny_handlers_suite_as ?_
  refine lands_againW fl5 fun h6 fl6 up6 => ?_
  have I6 := L h6 fl6 (up5.trans up6)
  refine lF (X := X.suite ea) (v := .ref ea) I6.suite hN hi (.inl hn) rfl (fun s7 I7 => ?_) (.inr hn)
  refine wpAny_mono (hs ea pins s7 _ _ _ I7 (q ea nea)) (fun fw s8 q8 => ?_) fun _ _ z => False.elim z
  cases fw with
  | next =>
   obtain ⟨σ8, H8, I8, n8⟩ := q8
   exact name_goes (I8.unsuite I5.ok) hN hi hn fun s9 I9 => ⟨_, H8, I9, n8⟩
  | ret v => obtain ⟨_, _, _, _, _, z⟩ := q8; exact False.elim z
  | brk => obtain ⟨_, _, _, z⟩ := q8; exact False.elim z
  | cont => obtain ⟨_, _, _, z⟩ := q8; exact False.elim z
def Fq (tb : XK → TS) (th : TH) : TS := fun D σ H => tb (fun cv _ H2 => ∃ C, cv = .ref C ∧ ∀ σ' : St, σ'.length = σ.length → th C D σ' H2) D σ H
theorem Ei {X : Cx} {body : List Stmt} {h0 : ExceptHandler} {hs : List ExceptHandler} {pos : Pos} {tb : XK → TS} {th : TH} (hst : X.stack = X.env :: X.outer) (hfr : X.env.frame = some X.env.locals)
  (hb : ∀ pins E, PSs (X.tr pins E) body (tb E)) (hh : PH X (h0 :: hs) th) : PS X (.Try body (h0 :: hs) [] [] pos) (Fq tb th) := by
 intro pins s σ H D I h
 refine wpAny_Try_except ?_
 refine wpAny_mono (hb pins _ [] s σ H D I.tr h) (fun fw s1 q => ?_) fun e s1 q => ?_
 ·have q' := q.untr
  cases fw with
  | next => exact wpAny_execs_nil q'
  | ret v => exact q'
  | brk => exact q'
  | cont => exact q'
 ·obtain ⟨σ1, H1, s0, I1, ea, C', t', B, H', rfl, os, bare, un, hok, fl, cov, C, eC, q2⟩ := q
  cases eC
  have frm : X.A.frames = some (X.env :: X.outer) := by rw [← hst]; exact I.ok.frames
  refine wpAny_looks_onW (base := B) frm hfr (by rw [← hst]; exact fl) fun h4 held up4 => wpAny_landsW held fun h5 fl5 up5 => ?_
  have fl5' : Heap.FlyingW B X.stack ea (.ref C') (.ref t') h5 := by rw [hst]; exact fl5
  obtain ⟨nea, _⟩ := landed I1 os bare un hok fl cov fl5' (up4.trans up5)
  exact hh pins ea C' t' B H' s1 σ1 D h5 (fun h6 fl6 up6 => (landed I1 os bare un hok fl cov fl6 up6).2) fl5' (up4.trans up5) nea (q2 σ1 (by rw [I1.len, I.len]))
end L2
namespace L2
open PySem PySem.Spec PyProof.Rows PySem.W
def BV (r r' r'' : R2) (ta tb tc td : TE) : TE := fun σ H Q => ta σ H fun x H1 => tb σ H1 fun y H2 => r x y H2 fun z H3 => ∃ k, z = .bl k ∧
 (if k = true then tc σ H3 fun w' H4 => r' y w' H4 fun z2 H5 => ∃ k2, z2 = .bl k2 ∧ (if k2 = true then td σ H5 fun w2 H6 => r'' w' w2 H6 Q else Q (.bl false) H5) else Q (.bl false) H3)
theorem zb {X : Cx} {a b c d : Expr} {ta tb tc td : TE} {pos : Pos} {op op' op'' : CmpOp} {r r' r'' : R2} (ho : OpR X (compareOp op) r) (ho' : OpR X (compareOp op') r') (ho'' : OpR X (compareOp op'') r'') (ha : PE X a ta) (hb : PE X b tb) (hc : PE X c tc) (hd : PE X d td)
  (hm : lastMarks [op, op', op''] [b, c, d] = false := by with_unfolding_all rfl) : PT X (.Compare a [op, op', op''] [b, c, d] pos) (z7 (BV r r' r'' ta tb tc td)) := by
 intro pins s σ H Q I h
 refine isTrue_chain (thn (ha pins s σ H _ I h) fun v s1 ⟨x, H1, I1, r1, q1⟩ => test_link (thn (hb pins s1 σ H1 _ I1 q1) fun u s2 ⟨y, H2, I2, r2, q2⟩ =>
  thn (ho pins s2 σ H2 x y v u _ I2 r1 r2 q2) fun d s3 ⟨z, H3, I3, r3, k, e, q3⟩ => ?_)) hm
 subst e
 cases r3
 refine wpAny_truthy_bool ?_
 cases k with
 | false =>
  obtain ⟨k', e', q'⟩ := q3
  cases e'
  exact ite_ff ⟨H3, I3, q'⟩
 | true =>
  refine ite_tt (test_link (thn (hc pins s3 σ H3 _ I3 q3) fun w' s4 ⟨z', H4, I4, r4, q4⟩ => thn (ho' pins s4 σ H4 y z' u w' _ I4 r2 r4 q4) fun d' s5 ⟨z2, H5, I5, r5, k2, e2, q5⟩ => ?_))
  subst e2
  cases r5
  refine wpAny_truthy_bool ?_
  cases k2 with
  | false =>
   obtain ⟨k', e', q'⟩ := q5
   cases e'
   exact ite_ff ⟨H5, I5, q'⟩
  | true =>
   refine ite_tt (test_last (thn (hd pins s5 σ H5 _ I5 q5) fun w2 s6 ⟨z3, H6, I6, r6, q6⟩ => thn (ho'' pins s6 σ H6 z' z3 w' w2 _ I6 r4 r6 q6) fun d2 s7 ⟨z4, H7, I7, r7, k3, e3, q7⟩ => ?_))
   subst e3
   cases r7
   exact wpAny_truthy_bool ⟨H7, I7, q7⟩
end L2
set_option Elab.async false
set_option linter.all false
set_option maxRecDepth 100000
set_option maxHeartbeats 4000000
namespace L2
open PySem PySem.Spec PyProof.Rows PySem.W
def aM (a : Addr) (o : Obj) : HO := .ext fun h => h.get? a = some o
theorem dh {P : Program} {w : World} {H : Hp} {h : Heap} {a : Addr} {o : Obj} (e : h.get? a = some o) : cj P w H h a (aM a o) := ⟨e, ⟨o, e⟩, fun _ _ p k => k o p⟩
theorem cG {P : Program} {w : World} {H : Hp} {h : Heap} {a : Addr} {o : Obj} (hok : HOk P w H h) (e : H a = some (aM a o)) : h.get? a = some o := (hok a _ e).1
def hide (H : Hp) (cs : List Addr) : Hp := fun b => if b ∈ cs then none else H b
def over (H : Hp) (cs : List Addr) (H' : Hp) : Hp := fun b => if b ∈ cs then H b else H' b
theorem lB {H : Hp} {cs : List Addr} {b : Addr} (h : b ∈ cs) : hide H cs b = none := if_pos h
theorem bK {H : Hp} {cs : List Addr} {b : Addr} (h : b ∉ cs) : hide H cs b = H b := if_neg h
theorem o4 {H H' : Hp} {cs : List Addr} {b : Addr} (h : b ∈ cs) : over H cs H' b = H b := if_pos h
theorem cW {H H' : Hp} {cs : List Addr} {b : Addr} (h : b ∉ cs) : over H cs H' b = H' b := if_neg h
theorem rA (H : Hp) (cs : List Addr) : over H cs (hide H cs) = H := by
 funext b
 by_cases h : b ∈ cs
 ·rw [o4 h]
 ·rw [cW h, bK h]
theorem zH {H H' : Hp} {cs : List Addr} {a : Addr} {o : HO} (h : a ∉ cs) : over H cs (upd H' a o) = upd (over H cs H') a o := by
 funext b
 by_cases hb : b ∈ cs
 ·have : b ≠ a := fun e => h (e ▸ hb)
  rw [o4 hb, aC this, o4 hb]
 ·rw [cW hb]
  by_cases e : b = a
  ·subst e
   rw [ak, ak]
  ·rw [aC e, aC e, cW hb]
section
variable {P : Program} {w : World} {H H' : Hp} {h h' : Heap} {cs : List Addr}
theorem xU (hok : HOk P w H h) (hx : ∀ a ∈ cs, ∃ o, H a = some (aM a o)) : HOk P w (hide H cs) h := fun b u e => by
 have hb : b ∉ cs := fun z => by rw [lB z] at e; cases e
 rw [bK hb] at e
 refine (hok b u e).stay (fun _ _ _ q => q) (fun c q => ?_) fun c xs q => ?_
 ·rw [bK]
  ·exact q
  ·intro z
   obtain ⟨o, e2⟩ := hx c z
   rw [q] at e2
   cases e2
 ·rw [bK]
  ·exact q
  ·intro z
   obtain ⟨o, e2⟩ := hx c z
   rw [q] at e2
   cases e2
theorem xx {fs : List Addr} (hok : HOk P w H h) (hok' : HOk P w H' h') (hx : ∀ a ∈ cs, ∃ o, H a = some (aM a o)) (hf : ∀ b ∈ fs, H b = none) (u : Un fs [] (hide H cs) H' h h') :
  HOk P w (over H cs H') h' ∧ Un fs [] H (over H cs H') h h' := by
 have get : ∀ a ∈ cs, ∃ o, H a = some (aM a o) ∧ h.get? a = some o := fun a ha => by
  obtain ⟨o, e⟩ := hx a ha
  exact ⟨o, e, cG hok e⟩
 have gone : ∀ a ∈ cs, H' a = none := fun a ha => by
  obtain ⟨o, _, e⟩ := get a ha
  exact u.free a o e (lB ha) (by simp)
 have out : ∀ b, H b = none → b ∉ cs := fun b n z => by
  obtain ⟨o, e, _⟩ := get b z
  rw [n] at e
  cases e
 refine ⟨fun b v e => ?_, fun b o e n hb hx' => ?_, fun b o e n hb hx' => ?_, fun b o e n hx' => ?_, fun b o e hx' => u.there b o e hx', fun b xs e => ?_, fun b o v e => ?_, fun b ps e => ?_⟩
 ·by_cases hb : b ∈ cs
  ·obtain ⟨o, e1, e2⟩ := get b hb
   rw [o4 hb, e1] at e
   cases e
   exact dh (u.keep b o e2 (lB hb) (fun z => by rw [hf b z] at e1; cases e1) (by simp))
  ·rw [cW hb] at e
   refine (hok' b v e).stay (fun _ _ _ q => q) (fun c q => ?_) fun c xs q => ?_
   ·rw [cW]
    ·exact q
    ·intro z
     rw [gone c z] at q
     cases q
   ·rw [cW]
    ·exact q
    ·intro z
     rw [gone c z] at q
     cases q
 ·exact u.keep b o e (by rw [bK (out b n)]; exact n) hb hx'
 ·exact u.slot b o e (by rw [bK (out b n)]; exact n) hb hx'
 ·rw [cW (out b n)]
  exact u.free b o e (by rw [bK (out b n)]; exact n) hx'
 ·have hb : b ∉ cs := fun z => by
   obtain ⟨o, e1⟩ := hx b z
   rw [e] at e1
   cases e1
  rw [cW hb]
  exact u.tups b xs (by rw [bK hb]; exact e)
 ·have hb : b ∉ cs := fun z => by
   obtain ⟨o, e1⟩ := hx b z
   rw [e] at e1
   cases e1
  rw [cW hb]
  exact u.frzs b o v (by rw [bK hb]; exact e)
 ·have hb : b ∉ cs := fun z => by
   obtain ⟨o, e1⟩ := hx b z
   rw [e] at e1
   cases e1
  rw [cW hb]
  exact u.tbls b ps (by rw [bK hb]; exact e)
end
structure qD where
 name : Str
 qual : Str
 params : Arguments
 body : List Stmt
 scope : Scope
 ps : List Str
 xs : List Str
structure je (H : Hp) (f : Addr) (c : qD) (cs : List Addr) (fvs : List V) : Prop where
 ex : ∃ (cd : Addr) (doc pm ctv : Value) (oc : Obj) (vs : Array Value) (t : Tok), H f = some (aM f (fnMade c.name c.qual c.params c.body c.scope (c.xs.zip cs) doc pm cd ctv)) ∧ H cd = some (aM cd oc) ∧ oc.data = .fields vs ∧ vs[1]? = some (.str c.qual t)
 cells : ∀ (i : Nat) (a : Addr), cs[i]? = some a → ∃ (co : Obj) (v : V) (u : Value), fvs[i]? = some v ∧ H a = some (aM a co) ∧ co.data = .cell (some u) ∧ RelV v u
 nd : cs.Nodup
 len : cs.length = c.xs.length
 lenV : fvs.length = c.xs.length
theorem je.same {H H' : Hp} {f : Addr} {c : qD} {cs : List Addr} {fvs : List V} (h : je H f c cs fvs) (s : ∀ b o, H b = some (aM b o) → H' b = some (aM b o)) : je H' f c cs fvs := by
 obtain ⟨⟨cd, doc, pm, ctv, oc, vs, t, h1, h2, h3, h4⟩, hc, nd, len, lenV⟩ := h
 refine ⟨⟨cd, doc, pm, ctv, oc, vs, t, s _ _ h1, s _ _ h2, h3, h4⟩, fun i a e => ?_, nd, len, lenV⟩
 obtain ⟨co, v, u, e1, e2, e3⟩ := hc i a e
 exact ⟨co, v, u, e1, s _ _ e2, e3⟩
structure qd (N : List Str) (c : qD) : Prop where
 kind : c.scope.kind = .function
 co : c.scope.isCoroutine = false
 gen : c.scope.isGenerator = false
 nocell : ∀ x ∈ c.scope.names, x.2 ≠ .cell
 pre : N.take (c.ps.length + c.xs.length) = c.ps ++ c.xs
 nd : N.Nodup
 par : ∀ n ∈ c.ps, c.scope.names.lookup n = some .local
 fr : ∀ x ∈ c.scope.names, x.2 = .free → x.1 ∈ c.xs
 frn : ∀ n ∈ c.xs, c.scope.names.lookup n ≠ some .local
def oE (P : Program) (w : World) (K : PySem.W.Frag) (mg : Str → Option Value) (base : Heap) (N : List Str) (qual : Str) (scope : Scope) (f : Addr) (cd : Value) (cl : List (Str × Addr)) (A : Around) (outer : List Env) (s : Shared) (H : Hp) : Cx where
 prog := P
 w := w
 K := K
 mg := mg
 base := base
 A := A.deeper (envX qual scope s.heap.objs.size f cd cl)
 N := N
 s₀ := s
 H₀ := H
 env := envX qual scope s.heap.objs.size f cd cl
 outer := outer
 stack := envX qual scope s.heap.objs.size f cd cl :: outer
 ex := []
 calm := true
 fn := fun _ => false
 pn := []
 xe := fun _ _ => False
theorem cD : ∀ {xs : List Str} {cs : List Addr} {x : Str} {c : Addr}, (xs.zip cs).lookup x = some c → ∃ i : Nat, xs[i]? = some x ∧ cs[i]? = some c
 | [], _, _, _, h => by simp at h
 | _ :: _, [], _, _, h => by simp at h
 | y :: xs, d :: cs, x, c, h => by
  rw [List.zip_cons_cons, List.lookup_cons] at h
  cases hb : x == y with
  | true =>
   rw [hb] at h
   cases h
   exact ⟨0, by rw [eq_of_beq hb]; rfl, rfl⟩
  | false =>
   rw [hb] at h
   obtain ⟨i, h1, h2⟩ := cD h
   exact ⟨i + 1, h1, h2⟩
theorem sS : ∀ {xs : List Str} {cs : List Addr} {x : Str}, cs.length = xs.length → x ∈ xs → ∃ c, (xs.zip cs).lookup x = some c
 | [], _, _, _, h => by simp at h
 | _ :: _, [], _, l, _ => by simp at l
 | y :: xs, d :: cs, x, l, h => by
  rw [List.zip_cons_cons, List.lookup_cons]
  cases hb : x == y with
  | true => exact ⟨d, rfl⟩
  | false =>
   rcases List.mem_cons.mp h with e | e
   ·rw [e] at hb
    simp at hb
   ·exact sS (by simpa using l) e
theorem wY : ∀ {xs : List Str} {cs : List Addr} {i : Nat} {x : Str} {c : Addr}, xs.Nodup → xs[i]? = some x → cs[i]? = some c → (xs.zip cs).lookup x = some c
 | [], _, _, _, _, _, h, _ => by simp at h
 | _ :: _, [], _, _, _, _, _, h => by simp at h
 | y :: xs, d :: cs, 0, x, c, _, h1, h2 => by
  simp at h1 h2
  subst h1 h2
  simp
 | y :: xs, d :: cs, i + 1, x, c, nd, h1, h2 => by
  have h1' : xs[i]? = some x := by simpa using h1
  have hne : (x == y) = false := by
   cases hb : x == y with
   | false => rfl
   | true =>
    rw [eq_of_beq hb] at h1'
    exact absurd (List.mem_of_getElem? h1') (List.nodup_cons.mp nd).1
  rw [List.zip_cons_cons, List.lookup_cons, hne]
  exact wY (List.nodup_cons.mp nd).2 h1' (by simpa using h2)
theorem lookup_mem : ∀ {l : List (Str × Value)} {y : Str} {u : Value}, (l.map (·.1)).Nodup → (y, u) ∈ l → l.lookup y = some u
 | [], _, _, _, h => by simp at h
 | (z, v) :: l, y, u, nd, h => by
  rw [List.map_cons] at nd
  rw [List.lookup_cons]
  rcases List.mem_cons.mp h with e | e
  ·cases e
   simp
  ·cases hb : y == z with
   | true =>
    rw [eq_of_beq hb] at e
    exact absurd (List.mem_map.mpr ⟨_, e, rfl⟩) (List.nodup_cons.mp nd).1
   | false => exact lookup_mem (List.nodup_cons.mp nd).2 e
theorem nZ : ∀ (ps : List Str) (us : List Value), ((ps.zip us).map (·.1)).Sublist ps
 | [], _ => by simp
 | _ :: _, [] => by simp
 | p :: ps, u :: us => by
  rw [List.zip_cons_cons, List.map_cons]
  exact (nZ ps us).cons₂ _
theorem xQ {ps : List Str} {us : List Value} {i : Nat} {y : Str} {u : Value} (nd : ps.Nodup) (h1 : ps[i]? = some y) (h2 : us[i]? = some u) : (ps.zip us).reverse.lookup y = some u := by
 refine lookup_mem ?_ ?_
 ·rw [List.map_reverse]
  refine List.pairwise_reverse.mpr (List.Pairwise.imp (fun h => Ne.symm h) (show ((ps.zip us).map (·.1)).Nodup from nd.sublist (nZ ps us)))
 ·rw [List.mem_reverse]
  exact List.mem_of_getElem? (i := i) (by rw [List.getElem?_zip_eq_some]; exact ⟨h1, h2⟩)
section
variable {P : Program} {w : World} {K : PySem.W.Frag} {mg : Str → Option Value} {base : Heap} {A : Around} {outer : List Env} {s : Shared} {H : Hp} {f : Addr} {c : qD} {cs : List Addr} {fvs vs : List V} {us : List Value} {N : List Str} {k : Nat} {Q : VK} {E : XK}
theorem Cm (S : qd N c) (hr : cJ (k + 1) A) (e0 : qR P w K mg base A outer s H) (ca : je H f c cs fvs) (hb : ∀ (cl : List (Str × Addr)) (doc pm cd ctv : Value), BindsTo s (fnX c.name c.qual c.params c.body c.scope cl .none .none doc pm none cd ctv) ⟨us, []⟩ (c.ps.zip us)) (r : Vals vs us) (hl : vs.length = c.ps.length)
  (body : ∀ cd : Addr, cJ k (A.deeper (envX c.qual c.scope s.heap.objs.size f (.ref cd) (c.xs.zip cs))) → ∃ t, PSs (oE P w K mg base N c.qual c.scope f (.ref cd) (c.xs.zip cs) A outer s (hide H cs)) c.body t ∧ t { nx := fun _ H' => Q .non (over H cs H'), rt := fun v H' => Q v (over H cs H') } (start N (vs ++ fvs)) (hide H cs)) :
  codeAny (model P w) A (.call (.ref f) ⟨us, []⟩) (CR CX0 outer P w H s Q E) s := by
 obtain ⟨⟨cd, doc, pm, ctv, oc, ws, tk, h1, h2, h3, h4⟩, hc, nd, len, lenV⟩ := ca
 have hx : ∀ a ∈ cs, ∃ o, H a = some (aM a o) := fun a ha => by
  obtain ⟨i, hi⟩ := List.getElem?_of_mem ha
  obtain ⟨co, v, u, _, e, _⟩ := hc i a hi
  exact ⟨co, e⟩
 have lim : s.heap.NoLimit := e0.mod.nolimit.keeps fun b o e => (e0.bs b o e).1
 have ndP : c.ps.Nodup := by
  have : c.ps.Sublist N := by
   have h5 : (c.ps ++ c.xs).Sublist N := by rw [← S.pre]; exact List.take_sublist _ _
   exact (List.sublist_append_left _ _).trans h5
  exact S.nd.sublist this
 have ndX : c.xs.Nodup := by
  have : c.xs.Sublist N := by
   have h5 : (c.ps ++ c.xs).Sublist N := by rw [← S.pre]; exact List.take_sublist _ _
   exact (List.sublist_append_right _ _).trans h5
  exact S.nd.sublist this
 have hpl : c.ps.length + c.xs.length ≤ N.length := by
  have := congrArg List.length S.pre
  rw [List.length_take, List.length_append] at this
  omega
 refine codeAny_call_def (fd := fnX c.name c.qual c.params c.body c.scope (c.xs.zip cs) .none .none doc pm none (.ref cd) ctv) (binds := c.ps.zip us) hr.depth (cG e0.hok h1) rfl lim ⟨cd, oc, ws, tk, rfl, cG e0.hok h2, h3, h4⟩ rfl (hb _ _ _ _ _) S.nocell (fun y hy => S.par _ (List.of_mem_zip hy).1) (fun h0 hns hk => ?_) S.co S.gen S.kind
 obtain ⟨t, ht, hq⟩ := body cd (hr.deeper _)
 have hok0 := xU e0.hok hx
 have I : Inv (oE P w K mg base N c.qual c.scope f (.ref cd) (c.xs.zip cs) A outer s (hide H cs)) [] (start N (vs ++ fvs)) (hide H cs) { s with heap := h0, toks := s.toks + (c.ps.zip us).length } := by
  refine ⟨⟨e0.mod, S.kind, rfl, rfl, Nat.le_refl _, fun y z b h5 h6 => ?_, fun y hy => ?_, fun y b h5 _ => absurd h5 Bool.false_ne_true, fun _ => hr.hd, Around.frames_deeper e0.frames, .inr ⟨rfl, rfl⟩, fun b z => absurd (show b ∈ ([] : List Addr) from z) (by simp), fun b o e => ⟨(e0.bs b o e).1, ?_⟩, e0.bsz, fun b _ _ z => absurd (show b ∈ ([] : List Addr) from z) (by simp), fun b z => absurd (show b ∈ ([] : List Addr) from z) (by simp), e0.funs, fun b hb' => ?_⟩,
   rfl, e0.bare, Un.kept hk, ⟨_, hns, fun i y v h5 h6 h7 => ?_⟩, fun y b h5 => ?_, hok0.fresh (Nat.le_refl _), fun y b h5 => ?_, fun p hp => absurd (show p ∈ ([] : List (Addr × Obj)) from hp) (by simp), hok0.kept hk, ?_⟩
  ·obtain ⟨i, i1, i2⟩ := cD h5
   obtain ⟨j, j1, j2⟩ := cD h6
   have := (List.getElem?_inj (List.getElem?_eq_some_iff.mp i2).1 nd).mp (i2.trans j2.symm)
   subst this
   exact Option.some.inj (i1.symm.trans j1)
  ·have hy : c.scope.names.lookup y = some .cell ∨ c.scope.names.lookup y = some .free := hy
   rcases hy with hy | hy
   ·exact absurd rfl (S.nocell _ (PySem.mem_of_lookup hy))
   ·exact sS len (S.fr _ (PySem.mem_of_lookup hy) rfl)
  ·have n := (e0.bs b o e).2
   show hide H cs b = none
   rw [bK]
   ·exact n
   ·intro z
    obtain ⟨o', e'⟩ := hx b z
    rw [n] at e'
    cases e'
  ·have n := e0.frf b hb'
   show hide H cs b = none
   rw [bK]
   ·exact n
   ·intro z
    obtain ⟨o', e'⟩ := hx b z
    rw [n] at e'
    cases e'
  ·have hi : i < (vs ++ fvs).length := by
    unfold start at h6
    by_cases hi : i < (vs ++ fvs).length
    ·exact hi
    ·rw [List.getElem?_append_right (by simpa using hi)] at h6
     rw [List.getElem?_replicate] at h6
     split at h6 <;> cases h6
   have ha : (vs ++ fvs)[i]? = some v := by
    unfold start at h6
    rw [List.getElem?_append_left (by simpa using hi), List.getElem?_map] at h6
    cases e : (vs ++ fvs)[i]? with
    | none => rw [e] at h6; cases h6
    | some a => rw [e] at h6; cases h6; rfl
   rw [List.length_append] at hi
   have hp : (c.ps ++ c.xs)[i]? = some y := by
    rw [← S.pre, List.getElem?_take_of_lt (by omega)]
    exact h5
   by_cases hi2 : i < vs.length
   ·rw [List.getElem?_append_left hi2] at ha
    rw [List.getElem?_append_left (by omega)] at hp
    obtain ⟨u, hu, rv⟩ := r.get ha
    exact ⟨u, rv, .inl ⟨S.par y (List.mem_of_getElem? hp), xQ ndP hp hu⟩⟩
   ·rw [List.getElem?_append_right (by omega)] at ha
    rw [List.getElem?_append_right (by omega), ← hl] at hp
    have hj : i - vs.length < cs.length := by
     have := (List.getElem?_eq_some_iff.mp hp).1
     omega
    obtain ⟨b, hb5⟩ : ∃ b, cs[i - vs.length]? = some b := ⟨_, List.getElem?_eq_getElem hj⟩
    obtain ⟨co, v', u, q1, q2, q3, q4⟩ := hc _ b hb5
    rw [ha] at q1
    cases q1
    have hfree : c.scope.names.lookup y = some .free := by
     rcases h7 with q | q | q
     ·exact absurd q (S.frn y (List.mem_of_getElem? hp))
     ·exact absurd rfl (S.nocell _ (PySem.mem_of_lookup q))
     ·exact q
    exact ⟨u, q4, .inr ⟨.inr hfree, b, wY ndX hp hb5, co, hk _ _ (cG e0.hok q2), q3⟩⟩
  ·obtain ⟨i, i1, i2⟩ := cD h5
   obtain ⟨co, v', u, q1, q2, q3, q4⟩ := hc _ b i2
   exact ⟨_, co, hk _ _ (cG e0.hok q2), q3⟩
  ·obtain ⟨i, i1, i2⟩ := cD h5
   exact lB (List.mem_of_getElem? i2)
  ·unfold start
   show _ = N.length
   rw [List.length_append, List.length_map, List.length_replicate, List.length_append]
   omega
 have fin : ∀ {s' : Shared} {σ' : St} {H' : Hp} {v : V} {u : Value}, Inv (oE P w K mg base N c.qual c.scope f (.ref cd) (c.xs.zip cs) A outer s (hide H cs)) [] σ' H' s' → RelV v u → Q v (over H cs H') → CE outer P w H s Q u s' := fun {s' σ' H' v u} J rv q => by
  obtain ⟨k1, k2⟩ := xx e0.hok J.hok hx e0.frf J.base
  exact ⟨v, over H cs H', J.os, J.bare, k2, k1, rv, q⟩
 refine wpAny_mono (ht [] _ (start N (vs ++ fvs)) (hide H cs) _ I hq) (fun fl s' hs => ?_) fun e s' hs => False.elim hs
 cases fl with
 | ret u =>
  obtain ⟨v, σ', H', J, rv, q⟩ := hs
  exact fin J rv q
 | next =>
  obtain ⟨σ', H', J, q⟩ := hs
  exact fin (v := V.non) (u := Value.none) J rfl q
 | brk =>
  obtain ⟨_, _, _, q⟩ := hs
  exact False.elim q
 | cont =>
  obtain ⟨_, _, _, q⟩ := hs
  exact False.elim q
end
end L2
set_option Elab.async false
set_option linter.all false
set_option maxRecDepth 100000
set_option maxHeartbeats 4000000
namespace L2
open PySem PySem.Spec PyProof.Rows PySem.W
def nU (P : Program) (w : World) (K : PySem.W.Frag) (mg : Str → Option Value) (base : Heap) (k : Nat) (sp : Addr → Sp) : Prop :=
 ∀ (f : Addr) (A : Around) (outer : List Env) (s : Shared) (H : Hp) (us : List Value) (vs : List V) (Q : VK), cJ k A → qR P w K mg base A outer s H → Vals vs us → sp f vs H Q E0 →
  codeAny (model P w) A (.call (.ref f) ⟨us, []⟩) (CR CX0 outer P w H s Q E0) s
theorem nU.mono {P : Program} {w : World} {K : PySem.W.Frag} {mg : Str → Option Value} {base : Heap} {j k : Nat} {sp : Addr → Sp} (F : nU P w K mg base j sp) (h : j ≤ k) : nU P w K mg base k sp :=
 fun f A outer s H us vs Q hr => F f A outer s H us vs Q (hr.mono h)
def Eg (i : Nat) (sp : Addr → Sp) (t : TA) : TE := fun σ H Q => ∃ f o fd, σ[i]? = some (some (.ref f)) ∧ H f = some (aM f o) ∧ o.data = .func fd ∧ t σ H fun vs H1 => H1 f = some (aM f o) ∧ sp f vs H1 Q E0
section
variable {X : Cx} {k i : Nat} {x : Str} {p pos : Pos} {e : Expr} {es : List Expr} {t : TA} {sp : Addr → Sp}
theorem dY (C : nU X.prog X.w X.K X.mg X.base k sp) (hr : cJ k X.A) (hi : X.N[i]? = some x) (ha : PA X (e :: es) t) (hv : Vis X.env.scope x := by first | exact Or.inl rfl | exact Or.inr (Or.inl rfl) | exact Or.inr (Or.inr rfl))
  (hd : (x == ("__debug__" : Str)) = false := by decide) (hcd : (x == ("__classdict__" : Str)) = false := by decide)
  (he : starEach (e :: es) X.env = (false, eval e X.env) :: starEach es X.env := by rfl) (hpl : (backTo pos (starEach es X.env)).any (·.1) = false := by rfl) : PE X (.Call (.Name x p) (e :: es) [] pos) (Eg i sp t) := by
 intro pins s σ H Q I h
 obtain ⟨f, o, fd, hs, hf, ho, h⟩ := h
 refine wpAny_Call_Name_kw (thn (xf hi hv hd hcd pins s σ H (fun v H' => v = .ref f ∧ H' = H) I ⟨_, hs, rfl, rfl⟩) fun u s1 hu => ?_)
 obtain ⟨v, H1, I1, rv, rfl, rfl⟩ := hu
 obtain rfl : u = Value.ref f := rv
 have fa : ∀ {H : Hp} {s : Shared}, Inv X pins σ H s → H f = some (aM f o) → FnAt f s.heap := fun {H s} J hf => by
  obtain ⟨oc, od, dt, sl⟩ := o
  have ho : dt = .func fd := ho
  subst ho
  exact ⟨oc, od, fd, sl, cG J.hok hf⟩
 refine callWith_F (fa I1 hf) (thn (ha pos pins s1 σ H1 _ I1 h) fun us s2 ⟨vs, H2, I2, r, hf2, q⟩ => ⟨fa I2 hf2, ?_⟩) he hpl
 refine wpAny_call (codeAny_mono (C f X.A X.stack s2 H2 us vs Q hr I2.env0 r q) fun r s' hq => ?_)
 cases r with
 | error e => exact False.elim hq
 | ok fl =>
  cases fl with
  | ret u => exact I2.after hq
  | next => exact False.elim hq
  | brk => exact False.elim hq
  | cont => exact False.elim hq
end
def BMain (mg : Str → Option Value) (h : Heap) : Prop := ∃ bm ob, mg "__builtins__" = some (.ref bm) ∧ bm ≠ builtinsNs ∧ h.get? bm = some ob ∧ ob.cls = .type "module" ∧ ob.dict = some builtinsNs ∧ ob.data = .plain
def TabAt (H : Hp) (P : Addr) (pos : Pos) (qual : Str) : Prop := ∃ ps : Array Value, H P = some (.tbl ps) ∧ TriplesOk ps.toList ∧
 (codeAmong pos ps.toList = none ∨ ∃ (cd : Addr) (oc : Obj) (vs : Array Value) (t : Tok), codeAmong pos ps.toList = some (.ref cd) ∧ H cd = some (aM cd oc) ∧ oc.data = .fields vs ∧ vs[1]? = some (.str qual t))
section
variable {X : Cx} {pins : List (Addr × Obj)} {σ : St} {H : Hp} {s : Shared} {c P : Addr} {name qual : Str} {params : Arguments} {body : List Stmt} {scope : Scope} {clos : List (Str × Addr)} {pos : Pos} {n : Nat}
theorem BK {M : Model} {A : Around} {E : Value → Shared → Prop} {Q : Value → Shared → Prop} (I : Inv X pins σ H s) (bm : BMain X.mg X.base) (hcode : X.env.code = .ref c) (C : CodeHd X.base c P) (hT : TabAt H P pos qual) (hcl : closureFor scope X.env = pure clos)
  (h : ∀ (fi cd : Addr) (doc pm ctv : Value) (oc : Obj) (vs : Array Value) (t : Tok) (H1 : Hp) (s1 : Shared), Inv X pins σ H1 s1 → H fi = none → (∀ b o, H b = some o → b ≠ P → H1 b = some o) → TabAt H1 P pos qual →
   H1 fi = some (aM fi (fnMade name qual params body scope clos doc pm cd ctv)) → H1 cd = some (aM cd oc) → oc.data = .fields vs → vs[1]? = some (.str qual t) → Q (.ref fi) s1) :
  wpAny M A (makeFunction name qual params (.stmts body) scope X.env [] [] [] pos n) Q E s := by
 obtain ⟨ps, hP, htr, hcase⟩ := hT
 have hPs : s.heap.get? P = some (tabObj ps) := I.hok P _ hP
 have G := I.mod.glob.keeps I.bk
 obtain ⟨bm, ob, b1, b2, b3, b4, b5, b6⟩ := bm
 have b3' := I.bk _ _ b3
 have hgP : mainGlobals ≠ P := fun q => by
  obtain ⟨o, es, ep, e, hd, _⟩ := G
  rw [q, hPs] at e; cases e; cases hd
 have hbP : bm ≠ P := fun q => by
  rw [q, hPs] at b3'; cases b3'; cases b4
 have hbG : bm ≠ mainGlobals := fun q => by
  obtain ⟨o, es, ep, e, hd, _⟩ := G
  rw [q, e] at b3'; cases b3'; rw [hd] at b6; cases b6
 have hbu : s.heap.BuiltinsAt X.mg P := ⟨bm, ob, b1, b2, hbG, hbP, b3', b4, b5, b6⟩
 rcases hcase with hnf | ⟨cd, oc, vs, t, hf, hcd, hd, hv⟩
 ·refine makeFunction_K (mg := X.mg) hcl I.ok.glob G hcode (C.keeps I.bk) hPs htr hnf hgP hbu fun c' ctv doc h' tk hx hge hlt hrec htb => ?_
  obtain ⟨c2, oc, vs, t, e2, hoc, hd, hv⟩ := hrec
  cases e2
  have nc : H c' = none := I.hok.fresh hge
  have nf : H h'.objs.size = none := I.hok.fresh (Nat.le_trans hge (Nat.le_of_lt hlt))
  have nPc : P ≠ c' := aB hP nc
  have nPf : P ≠ h'.objs.size := aB hP nf
  have ncf : c' ≠ h'.objs.size := Nat.ne_of_lt hlt
  have k1 : ∀ b, b ≠ P → b ≠ c' → b ≠ h'.objs.size → upd (upd (upd H P (.tbl (ps ++ #[rawInt pos.line, rawInt pos.col, .ref c']))) c' (aM c' oc)) h'.objs.size (aM h'.objs.size (fnMade name qual params body scope clos doc ((X.mg "__name__").getD .none) c' ctv)) b = H b := fun b e1 e2 e3 => by
   rw [aC e3, aC e2, aC e1]
  have kS : ∀ b o, H b = some o → b ≠ P → upd (upd (upd H P (.tbl (ps ++ #[rawInt pos.line, rawInt pos.col, .ref c']))) c' (aM c' oc)) h'.objs.size (aM h'.objs.size (fnMade name qual params body scope clos doc ((X.mg "__name__").getD .none) c' ctv)) b = some o := fun b o e n => by
   rw [k1 b n (aB e nc) (aB e nf)]
   exact e
  have kP : upd (upd (upd H P (.tbl (ps ++ #[rawInt pos.line, rawInt pos.col, .ref c']))) c' (aM c' oc)) h'.objs.size (aM h'.objs.size (fnMade name qual params body scope clos doc ((X.mg "__name__").getD .none) c' ctv)) P = some (.tbl (ps ++ #[rawInt pos.line, rawInt pos.col, .ref c'])) := by
   rw [aC nPf, aC nPc, ak]
  have kc : upd (upd (upd H P (.tbl (ps ++ #[rawInt pos.line, rawInt pos.col, .ref c']))) c' (aM c' oc)) h'.objs.size (aM h'.objs.size (fnMade name qual params body scope clos doc ((X.mg "__name__").getD .none) c' ctv)) c' = some (aM c' oc) := by
   rw [aC ncf, ak]
  have kf : upd (upd (upd H P (.tbl (ps ++ #[rawInt pos.line, rawInt pos.col, .ref c']))) c' (aM c' oc)) h'.objs.size (aM h'.objs.size (fnMade name qual params body scope clos doc ((X.mg "__name__").getD .none) c' ctv)) h'.objs.size = some (aM h'.objs.size (fnMade name qual params body scope clos doc ((X.mg "__name__").getD .none) c' ctv)) := ak
  generalize upd (upd (upd H P (.tbl (ps ++ #[rawInt pos.line, rawInt pos.col, .ref c']))) c' (aM c' oc)) h'.objs.size (aM h'.objs.size (fnMade name qual params body scope clos doc ((X.mg "__name__").getD .none) c' ctv)) = H1 at *
  have old : ∀ b o, s.heap.get? b = some o → b ≠ P → (h'.push (fnMade name qual params body scope clos doc ((X.mg "__name__").getD .none) c' ctv)).get? b = some o := fun b o e n => Heap.get?_push_of_some _ (hx b o n e)
  have tabP : (h'.push (fnMade name qual params body scope clos doc ((X.mg "__name__").getD .none) c' ctv)).get? P = some (tabObj (ps ++ #[rawInt pos.line, rawInt pos.col, .ref c'])) := Heap.get?_push_of_some _ htb
  have hl : (ps ++ #[rawInt pos.line, rawInt pos.col, .ref c']).toList = ps.toList ++ [rawInt pos.line, rawInt pos.col, .ref c'] := by simp
  refine h h'.objs.size c' doc _ ctv oc vs t H1 _ (I.call' (ch := []) rfl ⟨fun b o e n hb hx' => ?_, fun b o e n hb hx' => ?_, fun b o e n hx' => ?_, fun b o e hx' => ?_, fun b xs e => ?_, fun b o u e => ?_, fun b qs e => ?_⟩ (fun b u e => ?_) I.bare fun b z => absurd z (by simp)) nf kS ⟨_, kP, by rw [hl]; exact TriplesOk_snoc _ _ _ _ htr, .inr ⟨c', oc, vs, t, by rw [hl]; exact codeAmong_snoc _ htr hnf, kc, hd, hv⟩⟩ kf kc hd hv
  ·exact old b o e fun z => by rw [z, hP] at n; cases n
  ·exact ⟨o.slots, old b o e fun z => by rw [z, hP] at n; cases n⟩
  ·rw [k1 b (fun z => by rw [z, hP] at n; cases n) (Nat.ne_of_lt (Nat.lt_of_lt_of_le (Heap.lt_size e) hge)) (Nat.ne_of_lt (Nat.lt_of_lt_of_le (Heap.lt_size e) (Nat.le_trans hge (Nat.le_of_lt hlt))))]
   exact n
  ·by_cases z : b = P
   ·exact ⟨_, by rw [z]; exact tabP⟩
   ·exact ⟨o, old b o e z⟩
  ·exact kS b _ e fun z => by rw [z, hP] at e; cases e
  ·exact kS b _ e fun z => by rw [z, hP] at e; cases e
  ·by_cases z : b = P
   ·rw [z, hP] at e
    cases e
    exact ⟨_, by rw [z]; exact kP⟩
   ·exact ⟨#[], by rw [kS b _ e z]; simp⟩
  ·by_cases z1 : b = h'.objs.size
   ·rw [z1, kf] at e
    cases e
    rw [z1]
    exact dh (Heap.get?_push_size _ rfl)
   by_cases z2 : b = c'
   ·rw [z2, kc] at e
    cases e
    rw [z2]
    exact dh (Heap.get?_push_of_some _ hoc)
   by_cases z3 : b = P
   ·rw [z3, kP] at e
    cases e
    rw [z3]
    exact tabP
   rw [k1 b z3 z2 z1] at e
   refine (I.hok b u e).stay (fun d o hd' q => old d o q ?_) (fun d q => kS d _ q ?_) fun d xs q => kS d _ q ?_
   ·rcases hd' with rfl | hd'
    ·exact z3
    ·exact fun z => by rw [z, hP] at hd'; cases hd'
   ·exact fun z => by rw [z, hP] at q; cases q
   ·exact fun z => by rw [z, hP] at q; cases q
 ·refine makeFunction_hit (mg := X.mg) hcl I.ok.glob G hcode (C.keeps I.bk) hPs htr hf hbu fun ctv doc h' tk hk hsz => ?_
  have nf : H h'.objs.size = none := I.hok.fresh hsz
  have kS : ∀ b o, H b = some o → upd H h'.objs.size (aM h'.objs.size (fnMade name qual params body scope clos doc ((X.mg "__name__").getD .none) cd ctv)) b = some o := fun b o e => by
   rw [aC (aB e nf)]
   exact e
  have old : ∀ b o, s.heap.get? b = some o → (h'.push (fnMade name qual params body scope clos doc ((X.mg "__name__").getD .none) cd ctv)).get? b = some o := fun b o e => Heap.get?_push_of_some _ (hk b o e)
  refine h h'.objs.size cd doc _ ctv oc vs t _ _ (I.call' (ch := []) rfl (Un.laid old hsz nf) (fun b u e => ?_) I.bare fun b z => absurd z (by simp)) nf (fun b o e _ => kS b o e) ⟨ps, kS _ _ hP, htr, .inr ⟨cd, oc, vs, t, hf, kS _ _ hcd, hd, hv⟩⟩ ak (kS _ _ hcd) hd hv
  by_cases z1 : b = h'.objs.size
  ·rw [z1, ak] at e
   cases e
   rw [z1]
   exact dh (Heap.get?_push_size _ rfl)
  rw [aC z1] at e
  exact (I.hok b u e).stay (fun d o _ q => old d o q) (fun d q => kS d _ q) fun d xs q => kS d _ q
end
section
variable {CX : CXT} {P : Program} {w : World} {K : PySem.W.Frag} {mg : Str → Option Value} {base : Heap} {N : List Str} {qual : Str} {scope : Scope} {f c Pt : Addr} {A : Around} {outer : List Env} {s0 s : Shared} {H0 H : Hp} {E : XK} {σ : St} {Q : VK}
theorem BL {T : qD} {cs : List Addr} {fvs : List V} {pos p1 p2 : Pos} {i : Nat} (I : Inv (gh CX P w K mg base N qual scope f (.ref c) A outer s0 H0 E) [] σ H s) (bm : BMain mg base) (C : CodeHd base c Pt) (hT : TabAt H Pt pos T.qual)
  (hnd : N.Nodup) (hi : N[i]? = some T.name) (hloc : scope.names.lookup T.name = some .local) (hq : qualnameIn (envOfC qual scope s0.heap.objs.size f (.ref c)) T.name T.name = T.qual)
  (hcl : closureFor T.scope (envOfC qual scope s0.heap.objs.size f (.ref c)) = pure (T.xs.zip cs)) (hd0 : T.params.defaults = []) (hk0 : T.params.kw_defaults = []) (ha : annTrees T.params none (envOfC qual scope s0.heap.objs.size f (.ref c)) = [])
  (hndC : cs.Nodup) (hlen : cs.length = T.xs.length) (hlenV : fvs.length = T.xs.length)
  (hfv : ∀ (j : Nat) (a : Addr), cs[j]? = some a → ∃ (x : Str) (m : Nat) (v : V), (envOfC qual scope s0.heap.objs.size f (.ref c)).cells.lookup x = some a ∧ scope.names.lookup x = some .cell ∧ N[m]? = some x ∧ σ[m]? = some (some v) ∧ fvs[j]? = some v ∧ m ≠ i)
  (hQ : ∀ (fi : Addr) (H2 : Hp), H fi = none → (∀ a ∈ cs, H a = none) → (∀ b o, H b = some o → b ≠ Pt → H2 b = some o) → TabAt H2 Pt pos T.qual → je H2 fi T cs fvs → Q (.ref fi) H2)
  (hdb : (T.name == ("__debug__" : Str)) = false := by decide) (hcdn : (T.name == ("__classdict__" : Str)) = false := by decide) :
  wpAny (model P w) (A.deeper (envOfC qual scope s0.heap.objs.size f (.ref c))) (execs [.FunctionDef T.name T.params T.body [] none [] T.scope none T.name pos, .Return (some (.Name T.name p1)) p2] (envOfC qual scope s0.heap.objs.size f (.ref c)))
   (fun fl s' => ∃ u, fl = .ret u ∧ CE outer P w H0 s0 Q u s') (gh CX P w K mg base N qual scope f (.ref c) A outer s0 H0 E).xe s := by
 refine wpAny_execs_cons (nestDef_K hd0 hk0 ha ?_)
 rw [hq]
 refine BK (X := gh CX P w K mg base N qual scope f (.ref c) A outer s0 H0 E) (n := pos.line) I bm rfl C hT hcl fun fi cd doc pm ctv oc vs t H1 s1 I1 nfi keep hT1 hf1 hc1 hd hv => ?_
 refine lF (X := gh CX P w K mg base N qual scope f (.ref c) A outer s0 H0 E) (v := .ref fi) I1 hnd hi (.inl hloc) rfl (fun s2 I2 => ?_) (.inr hloc)
 have hiσ : i < σ.length := by rw [I.len]; exact (List.getElem?_eq_some_iff.mp hi).1
 refine wpAny_execs_cons (wpAny_Return_some (thn (xf (X := gh CX P w K mg base N qual scope f (.ref c) A outer s0 H0 E) hi (.inl hloc) hdb hcdn [] s2 _ H1 (fun v H' => v = .ref fi ∧ H' = H1) I2 ⟨_, List.getElem?_set_self hiσ, rfl, rfl⟩) fun u s3 hu => ?_))
 obtain ⟨v, H', J, rv, rfl, rfl⟩ := hu
 refine ⟨u, rfl, .ref fi, fun b => if b ∈ cs then (s3.heap.get? b).map (aM b) else H' b, J.os, J.bare, ?_, ?_, rv, ?_⟩
 all_goals
  have cellsOf : ∀ a ∈ cs, ∃ x, (envOfC qual scope s0.heap.objs.size f (.ref c)).cells.lookup x = some a := fun a ha' => by
   obtain ⟨j, hj⟩ := List.getElem?_of_mem ha'
   obtain ⟨x, m, v, h1, _⟩ := hfv j a hj
   exact ⟨x, h1⟩
  have fresh : ∀ a ∈ cs, s0.heap.objs.size ≤ a := fun a ha' => by
   obtain ⟨x, hx⟩ := cellsOf a ha'
   exact J.ok.cab x a rfl hx
  have gone : ∀ a ∈ cs, H' a = none := fun a ha' => by
   obtain ⟨x, hx⟩ := cellsOf a ha'
   exact J.freeC x a hx
  have out : ∀ b o, H' b = some o → b ∉ cs := fun b o e z => by
   rw [gone b z] at e
   cases e
 ·have U : Un (frs outer) [] H0 H' s0.heap s3.heap := J.base
  refine ⟨U.keep, U.slot, fun b o e n hx' => ?_, U.there, fun b xs e => ?_, fun b o v e => ?_, fun b ps e => ?_⟩
  ·show (if b ∈ cs then _ else H' b) = none
   rw [if_neg (fun z => absurd (Nat.lt_of_lt_of_le (Heap.lt_size e) (fresh b z)) (Nat.lt_irrefl _))]
   exact U.free b o e n hx'
  ·have e1 := U.tups b xs e
   show (if b ∈ cs then _ else H' b) = _
   rw [if_neg (out b _ e1)]
   exact e1
  ·have e1 := U.frzs b o v e
   show (if b ∈ cs then _ else H' b) = _
   rw [if_neg (out b _ e1)]
   exact e1
  ·obtain ⟨more, e1⟩ := U.tbls b ps e
   refine ⟨more, ?_⟩
   show (if b ∈ cs then _ else H' b) = _
   rw [if_neg (out b _ e1)]
   exact e1
 ·intro b u' e
  have e : (if b ∈ cs then (s3.heap.get? b).map (aM b) else H' b) = some u' := e
  by_cases hb : b ∈ cs
  ·rw [if_pos hb] at e
   cases q : s3.heap.get? b with
   | none => rw [q] at e; cases e
   | some o =>
    rw [q] at e
    cases e
    exact dh q
  ·rw [if_neg hb] at e
   refine (J.hok b u' e).stay (fun _ _ _ q => q) (fun d q => ?_) fun d xs q => ?_
   ·show (if d ∈ cs then _ else H' d) = _
    rw [if_neg (out d _ q)]
    exact q
   ·show (if d ∈ cs then _ else H' d) = _
    rw [if_neg (out d _ q)]
    exact q
 ·have kp : ∀ b o, H' b = some o → (fun b => if b ∈ cs then (s3.heap.get? b).map (aM b) else H' b) b = some o := fun b o e => by
   show (if b ∈ cs then _ else H' b) = _
   rw [if_neg (out b _ e)]
   exact e
  refine hQ fi _ nfi (fun a ha' => ?_) (fun b o e n => kp b o (keep b o e n)) ?_ ⟨⟨cd, doc, pm, ctv, oc, vs, t, kp _ _ hf1, kp _ _ hc1, hd, hv⟩, fun j a hj => ?_, hndC, hlen, hlenV⟩
  ·obtain ⟨x, hx⟩ := cellsOf a ha'
   exact I.freeC x a hx
  ·obtain ⟨ps, e1, e2, e3⟩ := hT1
   refine ⟨ps, kp _ _ e1, e2, ?_⟩
   rcases e3 with e3 | ⟨cd', oc', vs', t', e4, e5, e6⟩
   ·exact .inl e3
   ·exact .inr ⟨cd', oc', vs', t', e4, kp _ _ e5, e6⟩
  ·obtain ⟨x, m, v, h1, h2, h3, h4, h5, h6⟩ := hfv j a hj
   obtain ⟨mm, _, hl⟩ := J.loc
   obtain ⟨u', r', l⟩ := hl m x v h3 (by rw [List.getElem?_set_ne (Ne.symm h6)]; exact h4) (.inr (.inl h2))
   have l' : ∃ c', (envOfC qual scope s0.heap.objs.size f (.ref c)).cells.lookup x = some c' ∧ s3.heap.IsCell c' (some u') := by
    rcases l with ⟨l1, _⟩ | ⟨_, l2⟩
    ·have l1 : scope.names.lookup x = some .local := l1
     rw [h2] at l1
     cases l1
    ·exact l2
   obtain ⟨c', l1, co, l2, l3⟩ := l'
   rw [h1] at l1
   cases l1
   refine ⟨co, v, u', h5, ?_, l3, r'⟩
   show (if a ∈ cs then (s3.heap.get? a).map (aM a) else H' a) = _
   rw [if_pos (List.mem_of_getElem? hj), l2]
   rfl
theorem Ar {k : Nat} {name : Str} {params : Arguments} {body : List Stmt} {dV kV doc pm cdv ct oc : Value} {an od : Option Addr} {osl : Array (Option Value)} {ps : List Str} {sp : Sp} (lk : K.lookup f = some ⟨oc, od, .func (PySem.W.fnOf name qual params body scope dV kV doc pm an cdv ct), osl⟩) (hcd : PySem.W.codeIn K cdv qual = true) (S : aF N ps scope)
  (len : ∀ vs H Q E, sp vs H Q E → vs.length = ps.length)
  (hbody : ∀ (A : Around) (outer : List Env) (s : Shared) (H : Hp) (vs : List V) (Q : VK) (E : XK) (s1 : Shared), cJ k (A.deeper (envOfC qual scope s.heap.objs.size f cdv)) → sp vs H Q E → Inv (gh CX0 P w K mg base N qual scope f cdv A outer s H E) [] (start N vs) H s1 →
   wpAny (model P w) (A.deeper (envOfC qual scope s.heap.objs.size f cdv)) (execs body (envOfC qual scope s.heap.objs.size f cdv)) (fun fl s' => ∃ u, fl = .ret u ∧ CE outer P w H s Q u s') (gh CX0 P w K mg base N qual scope f cdv A outer s H E).xe s1) :
  aW P w K mg base CX0 (k + 1) f (PySem.W.fnOf name qual params body scope dV kV doc pm an cdv ct) ps sp := by
 refine ⟨len, fun A outer s H args us vs Q E hr e0 hb r hsp => ?_⟩
 have hl := len _ _ _ _ hsp
 have KX : K.In s.heap := e0.mod.kin.keeps fun b o e => (e0.bs b o e).1
 have lim : s.heap.NoLimit := e0.mod.nolimit.keeps fun b o e => (e0.bs b o e).1
 have hkind : ∀ y ∈ ps.zip us, scope.names.lookup y.1 = some .local ∨ (scope.names.lookup y.1 = some .cell ∧ ((cellsFrom (s.heap.objs.size + 1) scope.names []).lookup y.1).isSome = true) := fun ⟨n, v⟩ hy => by
  rcases S.par n (List.of_mem_zip hy).1 with q | q
  ·exact .inl q
  ·exact .inr ⟨q, PySem.W.cellsFrom_some _ _ _ (.inl q)⟩
 refine codeAny_call_function hr.depth (KX _ _ lk) rfl S.co S.gen rfl (PySem.W.codeRec_of KX hcd) (hb _ _ _ _ ?_)
 refine wpAny_newFunctionEnv_cells S.kind hkind fun env he s1 x => ?_
 subst he
 refine ⟨lim.keeps x.toInCall.keep, codeAny_func ?_⟩
 have I : Inv (gh CX0 P w K mg base N qual scope f cdv A outer s H E) [] (start N vs) H s1 := rC S hr.hd e0 hl r x
 refine wpAny_mono (hbody A outer s H vs Q E s1 (hr.deeper _) hsp I) (fun fl s' hs => ?_) fun e s' hs => hs
 obtain ⟨u, rfl, q⟩ := hs
 exact q
end
end L2
set_option Elab.async false
set_option linter.all false
set_option maxRecDepth 100000
set_option maxHeartbeats 4000000
namespace L2
open PySem PySem.Spec PyProof.Rows PySem.W
theorem yL {P : Program} {w : World} {K : PySem.W.Frag} {mg mb : Str → Option Value} {k : Nat} {fa a : Addr} {fd : FuncData} {x : Str} {sp : Sp} {s₁ : Shared} {vs : List Value} {ns : List Int} {tabs : List (Addr × Addr)}
  (KX : K.In s₁.heap) (hns : s₁.heap.Ns mainGlobals mg) (hb : s₁.heap.Ns builtinsNs mb) (hbb : ∀ x : Str, x ≠ "__name__" → mb x = bootBuiltins x) (hlim : s₁.heap.NoLimit) (hbm : BMain mg s₁.heap) (hT : TabsAt tabs s₁.heap) (hNT : noTabs K = true) (hg : s₁.gens = #[])
  (ha : s₁.heap.get? a = some { cls := .type "list", data := .seq vs.toArray }) (hi : IntsAre vs ns) (hl : ns.length ≤ sizeLine) (hr : cJ k callerA)
  (F : ∀ base : Heap, K.In base → base.Ns mainGlobals mg → BMain mg base → (∀ q ∈ tabs, CodeHd base q.1 q.2) → aW P w K mg base CX0 k fa fd [x] sp) (hbind : ∀ (s : Shared) (u : Value), BindsTo s fd ⟨[u], []⟩ [(x, u)])
  (hsp : ∀ H : Hp, SqL K H a (ns.map V.int) → (∀ q ∈ tabs, H q.2 = some (.tbl #[])) → sp [.ref a] H (fun v _ => v = .bl true) fun _ _ _ => False) :
  codeAny (model P w) callerA (.call (.ref fa) ⟨[.ref a], []⟩) (fun r s' => r = .ok (.ret (.bool true)) ∧ OldK s₁.heap s'.heap ∧ s'.os = s₁.os ∧ AllBare s'.gens) s₁ := by
 have rv := rK hi
 have lenV := hi.length
 have tabNoK : ∀ b, b ∈ tabs.map (·.2) → K.lookup b = none := fun b hb' => by
  cases q : K.lookup b with
  | none => rfl
  | some o =>
   obtain ⟨r, hr', rfl⟩ := List.mem_map.mp hb'
   have e := KX _ _ q
   rw [(hT r hr').2] at e
   cases e
   have h2 := List.all_eq_true.mp hNT _ (mem_of_lookupK q)
   exact absurd (show false = true from h2) Bool.false_ne_true
 have aNoT : a ∉ tabs.map (·.2) := fun z => by
  obtain ⟨r, hr', e⟩ := List.mem_map.mp z
  have e2 := (hT r hr').2
  rw [e, ha] at e2
  cases e2
 have core : ∀ H : Hp, (∀ b, H b = none ∨ (b = a ∧ K.lookup a = none ∧ H b = some (.frz { cls := .type "list", data := .seq vs.toArray } (.lst (ns.map V.int)))) ∨ (b ∈ tabs.map (·.2) ∧ H b = some (.tbl #[]))) → (∀ q ∈ tabs, H q.2 = some (.tbl #[])) → SqL K H a (ns.map V.int) → HOk P w H s₁.heap →
   codeAny (model P w) callerA (.call (.ref fa) ⟨[.ref a], []⟩) (fun r s' => r = .ok (.ret (.bool true)) ∧ OldK s₁.heap s'.heap ∧ s'.os = s₁.os ∧ AllBare s'.gens) s₁ := by
  intro H hO hTb hS hok
  have base_of : ∀ {b : Addr} {o : Obj}, s₁.heap.get? b = some o → H b = none → (p7 s₁.heap H).get? b = some o := fun e n => zL e n
  have noA : ∀ {b : Addr} {o : Obj}, s₁.heap.get? b = some o → o.cls ≠ .type "list" → o.cls ≠ .none → H b = none := fun {b o} e d1 d2 => by
   rcases hO b with z | ⟨rfl, _, z⟩ | ⟨z, _⟩
   ·exact z
   ·rw [ha] at e
    cases e
    exact absurd rfl d1
   ·obtain ⟨r, hr', rfl⟩ := List.mem_map.mp z
    rw [(hT r hr').2] at e
    cases e
    exact absurd rfl d2
  have noD : ∀ {b : Addr} {o : Obj} {es : Array DictEntry} {ep : Nat}, s₁.heap.get? b = some o → o.data = .dict es ep → H b = none := fun {b o es ep} e d => by
   rcases hO b with z | ⟨rfl, _, z⟩ | ⟨z, _⟩
   ·exact z
   ·rw [ha] at e; cases e
    have d' : Data.seq vs.toArray _ = Data.dict es ep := d
    cases d'
   ·obtain ⟨r, hr', rfl⟩ := List.mem_map.mp z
    rw [(hT r hr').2] at e
    cases e
    have d' : Data.fields _ = Data.dict es ep := d
    cases d'
  have nsK : ∀ {b : Addr} {m : Str → Option Value}, s₁.heap.Ns b m → (p7 s₁.heap H).Ns b m := fun {b m} ⟨o, es, ep, e, d, r⟩ => ⟨o, es, ep, base_of e (noD e d), d, r⟩
  have hKb : K.In (p7 s₁.heap H) := fun b o e => base_of (KX b o e) (by
   rcases hO b with z | ⟨rfl, z, _⟩ | ⟨z, _⟩
   ·exact z
   ·rw [e] at z; cases z
   ·rw [tabNoK b z] at e; cases e)
  have hM : Mod K mg (p7 s₁.heap H) := ⟨hKb, nsK hns, ⟨mb, nsK hb, hbb⟩, let ⟨mc, h1, h2⟩ := hlim; ⟨mc, nsK h1, h2⟩⟩
  have hB : BMain mg (p7 s₁.heap H) := by
   obtain ⟨bm, ob, b1, b2, b3, b4, b5⟩ := hbm
   exact ⟨bm, ob, b1, b2, base_of b3 (noA b3 (by rw [b4]; decide) (by rw [b4]; nofun)), b4, b5⟩
  have hC : ∀ q ∈ tabs, CodeHd (p7 s₁.heap H) q.1 q.2 := fun q hq => by
   obtain ⟨o, ws, file, tf, flags, tg, inF, text, tt, e1, r1, r2⟩ := (hT q hq).1
   exact ⟨o, ws, file, tf, flags, tg, inF, text, tt, base_of e1 (noA e1 (by rw [r1]; decide) (by rw [r1]; nofun)), r1, r2⟩
  have e0 : qR P w K mg (p7 s₁.heap H) callerA [] s₁ H := ⟨rfl, hM, fun b o e => Ck e, Nat.le_of_eq (yF _ _), trivial, fun b hb => absurd (show b ∈ ([] : List Addr) from hb) (by simp), hok, .of_eq hg⟩
  refine codeAny_mono ((F _ hKb (nsK hns) hB hC).run callerA [] s₁ H ⟨[.ref a], []⟩ [.ref a] [.ref a] _ _ hr e0 (hbind s₁ (.ref a)) (.cons rfl .nil) (hsp H hS hTb)) fun r s' h => ?_
  cases r with
  | error e => exact False.elim h
  | ok fl =>
   cases fl with
   | next => exact False.elim h
   | brk => exact False.elim h
   | cont => exact False.elim h
   | ret u =>
    obtain ⟨v, H', os, bare, un, hok', r', q⟩ := h
    have q' : v = .bl true := q
    subst q'
    obtain rfl : u = Value.bool true := r'
    refine ⟨rfl, ⟨fun b o e => ?_, fun b o e => un.there b o e (by simp)⟩, os, bare⟩
    rcases hO b with z | ⟨rfl, _, z⟩ | ⟨z1, z⟩
    ·exact .inl (un.keep b o e z (by intro z; exact absurd (show b ∈ ([] : List Addr) from z) (by simp)) (by simp))
    ·have z2 := un.frzs b _ _ z
     obtain ⟨e1, _⟩ := hok b _ z
     obtain ⟨e2, _⟩ := hok' b _ z2
     rw [e] at e1; cases e1
     exact .inl e2
    ·obtain ⟨more, z2⟩ := un.tbls b _ z
     have e1 : s'.heap.get? b = some { cls := .none, data := .fields (#[] ++ more) } := hok' b _ z2
     obtain ⟨r, hr', rfl⟩ := List.mem_map.mp z1
     have e2 := (hT r hr').2
     rw [e] at e2
     cases e2
     exact .inr (.inl ⟨((hT r hr').1.tab (hT r hr').2).isCodeTable, rfl, #[], more, rfl, e1⟩)
 cases hk : K.lookup a with
 | some o =>
  have e := KX a o hk
  rw [ha] at e
  cases e
  refine core (fun b => if b ∈ tabs.map (·.2) then some (.tbl #[]) else none) (fun b => ?_) (fun q hq => if_pos (List.mem_map_of_mem hq)) (.inr ⟨_, vs.toArray, _, hk, rfl, rfl, rfl, by rw [List.size_toArray, lenV]; exact hl, by simpa using rv⟩) (fun b u z => ?_)
  ·by_cases hb' : b ∈ tabs.map (·.2)
   ·exact .inr (.inr ⟨hb', if_pos hb'⟩)
   ·exact .inl (if_neg hb')
  ·by_cases hb' : b ∈ tabs.map (·.2)
   ·have z' := (if_pos hb').symm.trans z
    cases z'
    obtain ⟨r, hr', rfl⟩ := List.mem_map.mp hb'
    exact (hT r hr').2
   ·have z' := (if_neg hb').symm.trans z
    cases z'
 | none =>
  have hA : (fun b => if b = a then some (.frz { cls := .type "list", data := .seq vs.toArray } (.lst (ns.map V.int))) else if b ∈ tabs.map (·.2) then some (.tbl #[]) else none : Hp) a = some (.frz { cls := .type "list", data := .seq vs.toArray } (.lst (ns.map V.int))) := if_pos rfl
  have hTt : ∀ b ∈ tabs.map (·.2), (fun b => if b = a then some (.frz { cls := .type "list", data := .seq vs.toArray } (.lst (ns.map V.int))) else if b ∈ tabs.map (·.2) then some (.tbl #[]) else none : Hp) b = some (.tbl #[]) := fun b hb' => by
   have hne : b ≠ a := fun e => aNoT (e ▸ hb')
   show (if b = a then _ else if b ∈ tabs.map (·.2) then _ else _) = _
   rw [if_neg hne, if_pos hb']
  have hN : ∀ b, b ≠ a → b ∉ tabs.map (·.2) → (fun b => if b = a then some (.frz { cls := .type "list", data := .seq vs.toArray } (.lst (ns.map V.int))) else if b ∈ tabs.map (·.2) then some (.tbl #[]) else none : Hp) b = none := fun b h1 h2 => by
   show (if b = a then _ else if b ∈ tabs.map (·.2) then _ else _) = _
   rw [if_neg h1, if_neg h2]
  generalize (fun b => if b = a then some (.frz { cls := .type "list", data := .seq vs.toArray } (.lst (ns.map V.int))) else if b ∈ tabs.map (·.2) then some (.tbl #[]) else none : Hp) = H at *
  refine core H (fun b => ?_) (fun q hq => hTt _ (List.mem_map_of_mem hq)) (.inl (.inr ⟨{ cls := .type "list", data := .seq vs.toArray }, hA⟩)) (fun b u z => ?_)
  ·by_cases h1 : b = a
   ·rw [h1]
    exact .inr (.inl ⟨rfl, hk, hA⟩)
   ·by_cases h2 : b ∈ tabs.map (·.2)
    ·exact .inr (.inr ⟨h2, hTt b h2⟩)
    ·exact .inl (hN b h1 h2)
  ·by_cases h1 : b = a
   ·rw [h1, hA] at z
    cases z
    rw [h1]
    exact ⟨ha, by rw [List.length_map]; exact hl, vs, _, rv, ha⟩
   ·by_cases h2 : b ∈ tabs.map (·.2)
    ·rw [hTt b h2] at z
     cases z
     obtain ⟨r, hr', rfl⟩ := List.mem_map.mp h2
     exact (hT r hr').2
    ·rw [hN b h1 h2] at z
     cases z
theorem zy {l : PySem.W.OpenLaw} {n k : Nat} {q : Program} {loose : List Str} {XP : (Str → Option Value) → Heap → Prop} {YP : World → Heap → Prop} {d : DefRec} {K : Params → PySem.W.Frag} {x : Str}
  (hn : l.most = some n) (hn2 : n ≤ sizeLine) (hdf : d.params.defaults = []) (hr : cJ k callerA)
  (hY : ∀ (w : World) (h : Heap), YP w h → (K w.params).In h)
  (F : ∀ (w : World) (mg mb : Str → Option Value) (mean : ExcName → Option Value) (fa : Addr) (h : Heap), (K w.params).In h → Top q (looseW q loose) mean mg mb h → mg d.name = some (.ref fa) →
   ∃ (fd : FuncData) (tabs : List (Addr × Addr)) (sp : Sp), (∀ (s : Shared) (u : Value), BindsTo s fd ⟨[u], []⟩ [(x, u)]) ∧ TabsAt tabs h ∧ noTabs (K w.params) = true ∧
    (∀ base : Heap, (K w.params).In base → base.Ns mainGlobals mg → BMain mg base → (∀ q ∈ tabs, CodeHd base q.1 q.2) → aW l.prog w (K w.params) mg base CX0 k fa fd [x] sp) ∧
    ∀ (H : Hp) (a : Addr) (ns : List Int), ns.length ≤ n → SqL (K w.params) H a (ns.map V.int) → (∀ q ∈ tabs, H q.2 = some (.tbl #[])) → sp [.ref a] H (fun v _ => v = .bl true) fun _ _ _ => False) :
  PySem.W.WalkO q loose XP YP l.row.toRowW d [] (fun f vs => PySem.call f vs) := by
 refine Att.attach_call hn hdf fun w s₀ s₁ mg mb fa o pm cd doc a vs ns G Y ho hd hcd hmg hobj hints hlen hg => ?_
 have KX := hY w _ Y
 obtain ⟨fd, tabs, sp, hb, hT, hNT, hF, hsp⟩ := F w mg mb _ fa _ KX G.T hmg
 exact yL KX G.T.g G.T.b G.T.builtins G.T.nolimit G.T.bmain hT hNT hg hobj hints (Nat.le_trans hlen hn2) hr hF hb fun H hS hTb => hsp H a ns hlen hS hTb
end L2
set_option Elab.async false
set_option linter.all false
set_option maxRecDepth 100000
set_option maxHeartbeats 4000000
namespace L2
open PySem PySem.Spec PyProof.Rows PySem.W
def Fg (st : Stmt) (qual : Str) (ps xs : List Str) : qD := match st with
 | .FunctionDef n a b _ _ _ sc _ _ _ => ⟨n, qual, a, b, sc, ps, xs⟩
 | _ => ⟨"", qual, defArgs st, [], defScope st, ps, xs⟩
def uW : Stmt → Pos
 | .FunctionDef _ _ _ _ _ _ _ _ _ p => p
 | _ => ⟨0, 0, 0, 0⟩
structure Dj (N : List Str) (qual : Str) (scope : Scope) (T : qD) (i : Nat) (slots : List Nat) (csF : Addr → List Addr) : Prop where
 nd : N.Nodup
 hi : N[i]? = some T.name
 loc : scope.names.lookup T.name = some .local
 qn : ∀ (L f : Addr) (c : Value), qualnameIn (envOfC qual scope L f c) T.name T.name = T.qual
 cl : ∀ (L f : Addr) (c : Value), closureFor T.scope (envOfC qual scope L f c) = pure (T.xs.zip (csF L))
 d0 : T.params.defaults = []
 k0 : T.params.kw_defaults = []
 an : ∀ (L f : Addr) (c : Value), annTrees T.params none (envOfC qual scope L f c) = []
 ndC : ∀ L : Addr, (csF L).Nodup
 len : ∀ L : Addr, (csF L).length = T.xs.length
 fv : ∀ (L f : Addr) (c : Value) (j : Nat) (a : Addr), (csF L)[j]? = some a → ∃ (x : Str) (m : Nat), (envOfC qual scope L f c).cells.lookup x = some a ∧ scope.names.lookup x = some .cell ∧ N[m]? = some x ∧ slots[j]? = some m ∧ m ≠ i
 db : (T.name == ("__debug__" : Str)) = false
 dn : (T.name == ("__classdict__" : Str)) = false
def Made (H : Hp) (Pt : Addr) (pos : Pos) (T : qD) (slots : List Nat) (σ : St) (Q : VK) : Prop :=
 TabAt H Pt pos T.qual ∧ ∃ fvs : List V, (∀ j m : Nat, slots[j]? = some m → ∃ v, σ[m]? = some (some v) ∧ fvs[j]? = some v) ∧ fvs.length = T.xs.length ∧
  ∀ (fi : Addr) (cs : List Addr) (H2 : Hp), H fi = none → (∀ a ∈ cs, H a = none) → (∀ b o, H b = some o → b ≠ Pt → H2 b = some o) → TabAt H2 Pt pos T.qual → je H2 fi T cs fvs → Q (.ref fi) H2
section
variable {P : Program} {w : World} {K : PySem.W.Frag} {mg : Str → Option Value} {base : Heap} {x qual : Str} {st : Stmt} {f c Pt : Addr} {fd : FuncData} {N ps : List Str} {k i : Nat} {sp : Sp} {T : qD} {slots : List Nat} {csF : Addr → List Addr} {pos p1 p2 : Pos}
theorem zB {A : Around} {outer : List Env} {s s1 : Shared} {H H1 : Hp} {Q : VK} {E : XK} {σ : St} (M : Dj N qual (defScope st) T i slots csF) (bm : BMain mg base) (C : CodeHd base c Pt) (I : Inv (gh CX0 P w K mg base N qual (defScope st) f (.ref c) A outer s H E) [] σ H1 s1) (h : Made H1 Pt pos T slots σ Q) :
  wpAny (model P w) (A.deeper (envOfC qual (defScope st) s.heap.objs.size f (.ref c))) (execs [.FunctionDef T.name T.params T.body [] none [] T.scope none T.name pos, .Return (some (.Name T.name p1)) p2] (envOfC qual (defScope st) s.heap.objs.size f (.ref c)))
   (fun fl s' => ∃ u, fl = .ret u ∧ CE outer P w H s Q u s') (gh CX0 P w K mg base N qual (defScope st) f (.ref c) A outer s H E).xe s1 := by
 obtain ⟨hT, fvs, h1, h2, h3⟩ := h
 refine BL (cs := csF s.heap.objs.size) (fvs := fvs) I bm C hT M.nd M.hi M.loc (M.qn _ _ _) (M.cl _ _ _) M.d0 M.k0 (M.an _ _ _) (M.ndC _) (M.len _) h2 (fun j a e => ?_) (fun fi H2 n1 n2 n3 n4 n5 => h3 fi _ H2 n1 n2 n3 n4 n5) M.db M.dn
 obtain ⟨y, m, e1, e2, e3, e4, e5⟩ := M.fv s.heap.objs.size f (.ref c) j a e
 obtain ⟨v, e6, e7⟩ := h1 j m e4
 exact ⟨y, m, v, e1, e2, e3, e6, e7, e5⟩
theorem Fun.maker0 (F : Fun K x qual st f fd) (S : aF N ps (defScope st)) (M : Dj N qual (defScope st) T i slots csF) (bm : BMain mg base) (hcode : fd.code = .ref c) (C : CodeHd base c Pt) (len : ∀ vs H Q E, sp vs H Q E → vs.length = ps.length)
  (hb : defBody st = [.FunctionDef T.name T.params T.body [] none [] T.scope none T.name pos, .Return (some (.Name T.name p1)) p2])
  (h : ∀ (vs : List V) (H : Hp) (Q : VK) (E : XK), sp vs H Q E → Made H Pt pos T slots (start N vs) Q) : aW P w K mg base CX0 (k + 1) f fd ps sp := by
 obtain ⟨oc, od, kV, doc, pm, an, cdv, ct, osl, rfl, lk, hcd⟩ := F.ex
 obtain rfl : cdv = .ref c := hcode
 refine Ar lk hcd S len fun A outer s H vs Q E s1 hr hsp I => ?_
 rw [hb]
 exact zB M bm C I (h vs H Q E hsp)
theorem DQ {sp : Addr → Sp} (S : qd N T) (hb : ∀ (cl : List (Str × Addr)) (doc pm cd ctv : Value) (us : List Value), us.length = T.ps.length → bindArgs (fnX T.name T.qual T.params T.body T.scope cl .none .none doc pm none cd ctv) ⟨us, []⟩ = pure (T.ps.zip us))
  (h : ∀ (f : Addr) (vs : List V) (H : Hp) (Q : VK), sp f vs H Q E0 → vs.length = T.ps.length ∧ ∃ cs fvs, je H f T cs fvs ∧
   ∀ (cd : Addr) (A : Around) (outer : List Env) (s : Shared), cJ k (A.deeper (envX T.qual T.scope s.heap.objs.size f (.ref cd) (T.xs.zip cs))) → ∃ t, PSs (oE P w K mg base N T.qual T.scope f (.ref cd) (T.xs.zip cs) A outer s (hide H cs)) T.body t ∧ t { nx := fun _ H' => Q .non (over H cs H'), rt := fun v H' => Q v (over H cs H') } (start N (vs ++ fvs)) (hide H cs)) :
  nU P w K mg base (k + 1) sp := by
 intro f A outer s H us vs Q hr e0 r hsp
 obtain ⟨hl, cs, fvs, ca, hbody⟩ := h f vs H Q hsp
 exact Cm S hr e0 ca (fun cl doc pm cd ctv => .of_eq (hb cl doc pm cd ctv us (by rw [← r.length]; exact hl))) r hl fun cd hr' => hbody cd A outer s hr'
end
theorem tab0 {H : Hp} {P : Addr} {pos : Pos} {qual : Str} (h : H P = some (.tbl #[])) : TabAt H P pos qual := ⟨#[], h, trivial, .inl rfl⟩
theorem uz {K : PySem.W.Frag} {x : Str} {f c P : Addr} {oc to : Value} {od td : Option Addr} {fd : FuncData} {osl tsl : Array (Option Value)} {vs : Array Value} (a : nsIn K mainGlobals x = some (some (.ref f))) (l : K.lookup f = some ⟨oc, od, .func fd, osl⟩) (hc : fd.code = .ref c)
  (t : K.lookup c = some ⟨to, td, .fields vs, tsl⟩) (p : vs[11]? = some (.ref P)) : tabIn K x = some (c, P) := by
 unfold tabIn
 simp only [a, l, hc, t, p]
end L2
set_option Elab.async false
set_option linter.all false
set_option maxRecDepth 100000
set_option maxHeartbeats 4000000
namespace PySem
open PyProof.Rows
namespace F
theorem lri_no_len : typeLookup (.type "list_reverseiterator") "__len__" = pure none := by rw [typeLookup_type, builtinLookup_eq_fast]; kernel_rfl
theorem lri_hint : typeLookup (.type "list_reverseiterator") "__length_hint__" = pure (some (.builtin "list_reverseiterator.__length_hint__")) := by rw [typeLookup_type, builtinLookup_eq_fast]; kernel_rfl
end F
section
variable {prog : Program} {w : World} {A : Around} {E : Value → Shared → Prop} {s : Shared}
theorem ql {it l : Addr} {i : Int} {Q : Bool → Shared → Prop} (hit : s.heap.IsRevIter it l i) (h : Q false s) : wpAny (model prog w) A (Builtin.List.listLengthHint (.ref it)) Q E s := by
 unfold Builtin.List.listLengthHint
 refine wpAny_bind (wpAny_specialOf hit.typeIs F.lri_no_len ?_)
 show wpAny _ A (specialOf (Value.ref it) (Str.ofString "__length_hint__") >>= _) _ _ _
 refine wpAny_bind (wpAny_specialOf hit.typeIs F.lri_hint ?_)
 generalize hid : ("list_reverseiterator.__length_hint__" : String) = id0
 wp_delta
 rw [show splitId id0 = some ("list_reverseiterator", "__length_hint__") from by subst hid; decide +kernel]
 subst hid
 refine wpAny_bind (wpAny_isInstance (T := "list_reverseiterator") (b := true) hit.typeIs (by rw [isSubtype_type]; kernel_rfl) ?_)
 refine wpAny_ite_split (fun hab => absurd hab (by decide)) (fun _ => ?_)
 refine wpAny_ite_split (fun _ => ?_) (fun hab => absurd (by decide +kernel) hab)
 refine wpAny_ite_split (fun hab => absurd hab (by decide +kernel)) (fun _ => ?_)
 exact wpAny_pure h
end
section
variable {prog : Program} {w : World} {A : Around} {s : Shared} {R : Result → Shared → Prop}
theorem nJ {it l : Addr} {items : Array Value} (hh : A.handled = none) (hne : l ≠ it) (S : Addr) (res : Value) (c₀ : Nat) (hit : s.heap.IsRevIter it l ((items.size : Int) - 1)) (hl : s.heap.IsList l items) (hSi : S ≠ it) (hSl : S ≠ l)
  (hS : s.heap.get? S = some { cls := .type "list", data := .seq #[] c₀ })
  (hR : ∀ h' tk acc' c', (∀ b o, b ≠ S → b ≠ it → s.heap.get? b = some o → h'.get? b = some o) → h'.get? S = some { cls := .type "list", dict := none, data := .seq acc' c', slots := #[] } →
   ItemsOf (fun i v => items[items.size - 1 - i]? = some v) acc' items.size → R (.ok (.ret res)) { s with heap := h', toks := tk }) (hn : items.size ≤ sizeLine) :
  wpAny (model prog w) A.in1 (Builtin.List.listExtendWith (.ref S) (.ref it) res)
   (fun fin s' => match fin with | .done f => R (.ok f) s' | .again c' => c'.quiet = true ∧ codeAny (model prog w) A c' R s') (fun e s' => R (.error e) s') s := by
 have hSf : S ∉ [it, l] := fun hm => by
  rcases List.mem_cons.mp hm with e | hm
  ·exact hSi e
  ·exact hSl (List.mem_singleton.mp hm)
 have W := (Walks.listRev (prog := prog) (w := w) (A := A.in1) hh it l hne items).toS
 have key : ∀ (h : Heap) (c₁ tk : Nat), h.IsRevIter it l ((items.size : Int) - 1) → h.IsList l items → (∀ b o, b ≠ S → s.heap.get? b = some o → h.get? b = some o) →
   h.get? S = some { cls := .type "list", data := .seq #[] c₁ } → codeAny (model prog w) A (.builtin "list.extend.loop" ⟨[.ref S, .ref it, res], []⟩) R { s with heap := h, toks := tk } := by
  intro h c₁ tk hit₁ hl₁ hk hS₁
  refine codeAny_extend_loopS W hn S hSf res items.size 0 _ #[] c₁ rfl (Nat.zero_le _) ⟨Nat.zero_le _, ?_, hl₁⟩ hS₁ (ItemsOf.nil _) fun s' acc' c' hm hS' hacc => ?_
  ·have e : (items.size : Int) - 1 - ((0 : Nat) : Int) = (items.size : Int) - 1 := by omega
   rw [e]
   exact hit₁
  rw [Moved.eq_with hm]
  refine hR s'.heap s'.toks acc' c' (fun b o hb hb2 e => hm.heap b o (fun hmem => ?_) (hk b o hb e)) hS' hacc
  rcases List.mem_cons.mp hmem with e' | hmem
  ·exact hb e'
  ·exact hb2 (List.mem_singleton.mp hmem)
 unfold Builtin.List.listExtendWith
 refine wpAny_bind (wpAny_typeOf hit.typeIs ?_)
 have h1 : Builtin.List.listSameRef (.ref S) (.ref it) = false := by simp [Builtin.List.listSameRef, hSi]
 have h2 : (Value.type "list_reverseiterator" == Value.type "list") = false := by decide
 have h3 : (Value.type "list_reverseiterator" == Value.type "tuple") = false := by decide
 simp only [h1, h2, h3, Bool.or_false, Bool.false_eq_true, if_false]
 refine wpAny_bind (wpAny_pyIter_revIter hit ?_)
 refine wpAny_bind (wpAny_holding (ql hit ?_))
 refine wpAny_ite_split (fun _ => ?_) (fun _ => wpAny_pure ⟨plainId_quiet F.plain_extend_loop _, key _ c₀ _ hit hl (fun b o _ e => e) hS⟩)
 refine wpAny_bind (wpAny_rule ?_)
 refine wpAny_bind ?_
 show wpAny _ _ (updateSeq S (·.push .none) >>= fun _ => updateSeq S (·.pop)) _ _ _
 refine wpAny_bind (wpAny_updateSeq hS rfl ?_)
 have hS₂ := Heap.get?_update_self (Obj.mapSeq (·.push Value.none)) hS rfl
 refine wpAny_updateSeq (hz := by seq_fits) hS₂ rfl ?_
 have hS₃ := Heap.get?_update_self (Obj.mapSeq (·.pop)) hS₂ rfl
 have oth : ∀ b o, b ≠ S → s.heap.get? b = some o → ((s.heap.update S (Obj.mapSeq (·.push Value.none))).update S (Obj.mapSeq (·.pop))).get? b = some o :=
  fun b o hb e => (Heap.get?_update_other _ _ (Ne.symm hb)).trans ((Heap.get?_update_other _ _ (Ne.symm hb)).trans e)
 exact wpAny_pure ⟨plainId_quiet F.plain_extend_loop _, key _ _ _ (hit.at fun o e => oth it o (Ne.symm hSi) e) (hl.at fun o e => oth l o (Ne.symm hSl) e) oth hS₃⟩
theorem jY {it l : Addr} {items : Array Value} (hh : A.handled = none) (hne : l ≠ it) (S : Addr) (hit : s.heap.IsRevIter it l ((items.size : Int) - 1)) (hl : s.heap.IsList l items) (hSi : S ≠ it) (hSl : S ≠ l)
  (hS : s.heap.get? S = some { cls := .type "list", data := .seq #[] })
  (hR : ∀ h' tk acc' c', (∀ b o, b ≠ S → b ≠ it → s.heap.get? b = some o → h'.get? b = some o) → h'.get? S = some { cls := .type "list", dict := none, data := .seq acc' c', slots := #[] } →
   ItemsOf (fun i v => items[items.size - 1 - i]? = some v) acc' items.size → R (.ok (.ret .none)) { s with heap := h', toks := tk }) (hn : items.size ≤ sizeLine) :
  wpAny (model prog w) A.in1 (Builtin.«list.__init__» ⟨[.ref S, .ref it], []⟩)
   (fun fin s' => match fin with | .done f => R (.ok f) s' | .again c' => c'.quiet = true ∧ codeAny (model prog w) A c' R s') (fun e s' => R (.error e) s') s := by
 show wpAny _ _ (do let old ← Builtin.List.listItems (.ref S); Builtin.List.listUpdate (.ref S) (fun _ => #[]); letGo old.toList.reverse; Builtin.List.listExtendWith (.ref S) (.ref it) .none) _ _ s
 refine wpAny_bind ?_
 unfold Builtin.List.listItems
 refine wpAny_bind (wpAny_seqItems hS rfl (wpAny_pure ?_))
 show wpAny _ _ (updateSeq S (fun _ => #[]) >>= fun _ => letGo (#[] : Array Value).toList.reverse >>= fun _ => Builtin.List.listExtendWith (.ref S) (.ref it) .none) _ _ s
 refine wpAny_bind (wpAny_updateSeq hS rfl ?_)
 have hS₂ := Heap.get?_update_self (Obj.mapSeq (fun _ => (#[] : Array Value))) hS rfl
 have oth : ∀ b o, b ≠ S → s.heap.get? b = some o → (s.heap.update S (Obj.mapSeq (fun _ => (#[] : Array Value)))).get? b = some o :=
  fun b o hb e => (Heap.get?_update_other _ _ (Ne.symm hb)).trans e
 refine wpAny_bind (wpAny_letGo ?_)
 refine nJ hh hne S .none _ (hit.at fun o e => oth it o (Ne.symm hSi) e) (hl.at fun o e => oth l o (Ne.symm hSl) e) hSi hSl hS₂ (fun h' tk acc' c' hk hS' hacc => ?_) hn
 exact hR h' tk acc' c' (fun b o hb hb2 e => hk b o hb hb2 (oth b o hb e)) hS' hacc
end
section
variable {prog : Program} {w : World} {A : Around} {E : Value → Shared → Prop} {s : Shared}
theorem qF {Q : Value → Shared → Prop} {it l : Addr} {items : Array Value} (hh : A.handled = none) (hne : l ≠ it) (hit : s.heap.IsRevIter it l ((items.size : Int) - 1)) (hl : s.heap.IsList l items) (hn : items.size ≤ sizeLine)
  (hQ : ∀ h' tk acc' c', (∀ b o, b ≠ it → s.heap.get? b = some o → h'.get? b = some o) → h'.get? s.heap.objs.size = some { cls := .type "list", dict := none, data := .seq acc' c', slots := #[] } →
   ItemsOf (fun i v => items[items.size - 1 - i]? = some v) acc' items.size → Q (.ref s.heap.objs.size) { s with heap := h', toks := tk }) :
  wpAny (model prog w) A (call (.type "list") [.ref it]) Q E s := by
 obtain ⟨oi, hoi, _⟩ := id hit
 obtain ⟨ol, hol, _⟩ := id hl
 refine callType_codes (Q₁ := fun obj s₁ => obj = .ref s.heap.objs.size ∧ s₁ = { s with heap := s.heap.push { cls := .type "list", data := .seq #[] } }) F.called_list (F.typeCall_list_1 _) F.entry_list_init
  (code_list_new _ ⟨rfl, rfl⟩) fun obj s₁ h₁ => ?_
 obtain ⟨rfl, rfl⟩ := h₁
 have hS : (s.heap.push { cls := .type "list", data := .seq #[] }).get? s.heap.objs.size = some { cls := .type "list", data := .seq #[] } := Heap.get?_push_size _ rfl
 refine ⟨⟨_, hS, rfl⟩, F.args_list_init_2 _ _, jY (A := A.in1) hh hne _ (hit.at fun o e => Heap.get?_push_of_some _ e) (hl.at fun o e => Heap.get?_push_of_some _ e) (Nat.ne_of_gt (Heap.lt_size hoi)) (Nat.ne_of_gt (Heap.lt_size hol)) hS (fun h' tk acc' c' hk hS' hacc => ?_) hn⟩
 exact ⟨rfl, hQ h' tk acc' c' (fun b o hb e => hk b o (Nat.ne_of_lt (Heap.lt_size e)) hb (Heap.get?_push_of_some _ e)) hS' hacc⟩
end
end PySem
namespace L2
open PySem PySem.Spec PyProof.Rows PySem.W
section
variable {X : Cx}
def Ft (K : PySem.W.Frag) (ta : TA) : TE := fun σ H Q => ta σ H fun vs H1 => ∃ p ys, vs = [.ref p] ∧ SqL K H1 p ys ∧ ∀ l, H1 l = none → Q (.ref l) (upd H1 l (.lst ys.reverse))
theorem wj {a : Expr} {ta : TA} {p p2 pos pos2 : Pos} (hc : X.calm = true) (hg : Gl X "list") (hm : X.mg "list" = none) (hv : bootBuiltins "list" = some (.type "list")) (hg2 : Gl X "reversed") (hm2 : X.mg "reversed" = none) (hv2 : bootBuiltins "reversed" = some (.type "reversed"))
  (ha : PA X [a] ta) (hs : starEach [a] X.env = [(false, eval a X.env)] := by rfl)
  (he : starEach [.Call (.Name "reversed" p2) [a] [] pos2] X.env = (false, eval (.Call (.Name "reversed" p2) [a] [] pos2) X.env) :: starEach [] X.env := by rfl) (hpl : (backTo pos (starEach [] X.env)).any (·.1) = false := by rfl) :
  PE X (.Call (.Name "list" p) [.Call (.Name "reversed" p2) [a] [] pos2] [] pos) (Ft X.K ta) := by
 intro pins s σ H Q I h
 refine wpAny_Call_Name_kw (dD I hg hm hv ?_)
 refine PyProof.Rows.callWith_type1 ?_ he hpl
 rw [he]
 show wpAny _ _ (spliced ((false, eval (.Call (.Name "reversed" p2) [a] [] pos2) X.env) :: backTo pos (starEach [] X.env))) _ _ s
 refine Calls.spliced_cons ?_
 refine Call_ (dD I hg2 hm2 hv2 (PyProof.Rows.callWith_type1 (thn (ha pos2 pins s σ H _ I h) fun us s1 ⟨vs, H1, I1, r1, q1⟩ => ?_) hs rfl))
 obtain ⟨b, xs, e, hq, q⟩ := q1
 subst e
 obtain ⟨u, rfl, rx⟩ := vals1 r1
 cases rx
 obtain ⟨its, rv, pl, hz⟩ := I1.list hq
 have hl := rv.length
 obtain ⟨ob, hob, hobc, hobn, hobd⟩ := id pl.isList
 have blt : b < s1.heap.objs.size := Heap.lt_size hob
 refine call_reversed_list pl.isList ?_
 refine Calls.spliced_nil ?_
 refine qF (I.ok.hd hc) (l := b) (items := its.toArray) (Nat.ne_of_lt blt) ⟨_, Heap.get?_push_size _ rfl, rfl, rfl⟩ (pl.isList.push _) (by rw [List.size_toArray]; omega) fun h' tk acc' c' hk hS hacc => ?_
 have eacc : acc' = its.reverse.toArray := by
  obtain ⟨e1, e2⟩ := hacc
  apply Array.ext
  ·rw [e1, List.size_toArray, List.size_toArray, List.length_reverse]
  ·intro i h1 h2
   have := e2 i acc'[i] (Array.getElem?_eq_getElem h1)
   rw [List.size_toArray, List.getElem?_toArray, ← List.getElem?_reverse (by rw [e1, List.size_toArray] at h1; exact h1)] at this
   rw [List.getElem_toArray]
   exact (Option.some.inj ((List.getElem?_eq_getElem _).symm.trans this)).symm
 subst eacc
 refine ⟨.ref _, _, I1.laid (t' := tk) (o := .lst xs.reverse) (fun c o e => hk c o (Nat.ne_of_lt (Heap.lt_size e)) (Heap.get?_push_of_some _ e)) ?_ ⟨by rw [List.length_reverse]; exact hz, its.reverse, c', rv.reverse, hS⟩, rfl, q _ (I1.hok.fresh ?_)⟩
 ·show s1.heap.objs.size ≤ (s1.heap.push _).objs.size
  simp [Heap.push]
 ·show s1.heap.objs.size ≤ (s1.heap.push _).objs.size
  simp [Heap.push]
end
end L2
set_option Elab.async false
set_option linter.all false
set_option maxRecDepth 100000
set_option maxHeartbeats 4000000
namespace Tw
def Tree (ns : List Int) : Prop := 2 ≤ ns.length ∧ ht ns ns.length = 0 ∧ ∀ k, 0 < k → k < ns.length → 0 < ht ns k
end Tw
set_option Elab.async false
set_option linter.all false
set_option maxRecDepth 100000
set_option maxHeartbeats 4000000
namespace Tw
def ji (n S : Nat) : Prop := ∃ h, S = 2 ^ h ∧ n ≤ S ∧ ∀ j, j < h → 2 ^ j < n
theorem ji.uniq {n S S' : Nat} (a : ji n S) (b : ji n S') : S = S' := by
 obtain ⟨h, rfl, h1, h2⟩ := a
 obtain ⟨k, rfl, k1, k2⟩ := b
 rcases Nat.lt_trichotomy h k with q | q | q
 ·have := k2 h q
  omega
 ·rw [q]
 ·have := h2 k q
  omega
theorem ji.pos {n S : Nat} (a : ji n S) : 1 ≤ S := by
 obtain ⟨h, rfl, _⟩ := a
 exact Nat.one_le_two_pow
theorem ji.le {n S : Nat} (a : ji n S) (h : n ≤ 4096) : S ≤ 4096 := by
 obtain ⟨k, rfl, k1, k2⟩ := a
 rcases Nat.lt_or_ge 12 k with q | q
 ·have := k2 12 q
  omega
 ·exact Nat.le_trans (Nat.pow_le_pow_right (by decide) q) (by decide)
def NodeOk (S st sp n e : Nat) : Prop := 1 ≤ n ∧ S ≤ n * 2 ^ e ∧ (n + 1) * 2 ^ e ≤ S + sp ∧ (1 < n → S ≤ n / 2 * 2 ^ (e + 1) ∧ (n / 2 + 1) * 2 ^ (e + 1) ≤ 2 * S ∧ (n / 2 * 2 ^ (e + 1) < S + st ∨ S + sp < (n / 2 + 1) * 2 ^ (e + 1)))
def Chain (S st sp : Nat) : List Nat → Nat → Nat → Prop
 | [], x, y => x = y
 | n :: r, x, y => ∃ e, n * 2 ^ e = x ∧ NodeOk S st sp n e ∧ Chain S st sp r ((n + 1) * 2 ^ e) y
theorem Chain.append {S st sp : Nat} : ∀ {l m : List Nat} {x y z : Nat}, Chain S st sp l x y → Chain S st sp m y z → Chain S st sp (l ++ m) x z
 | [], m, x, y, z, h, k => by
  cases h
  exact k
 | n :: r, m, x, y, z, h, k => by
  obtain ⟨e, h1, h2, h3⟩ := h
  exact ⟨e, h1, h2, h3.append k⟩
theorem Chain.one {S st sp n e : Nat} (h : NodeOk S st sp n e) : Chain S st sp [n] (n * 2 ^ e) ((n + 1) * 2 ^ e) := ⟨e, rfl, h, rfl⟩
structure Cov (S st sp e low high : Nat) (ls rs : List Nat) : Prop where
 lo1 : S + st ≤ low * 2 ^ e
 lo2 : low * 2 ^ e < S + st + 2 ^ e
 hi1 : high * 2 ^ e ≤ S + sp
 hi2 : S + sp < high * 2 ^ e + 2 ^ e
 le : low ≤ high
 left : Chain S st sp ls (S + st) (low * 2 ^ e)
 right : Chain S st sp rs.reverse (high * 2 ^ e) (S + sp)
theorem Cov.start {S st sp : Nat} (h : st ≤ sp) : Cov S st sp 0 (S + st) (S + sp) [] [] := by
 refine ⟨by omega, by omega, by omega, by omega, by omega, ?_, ?_⟩
 ·show S + st = (S + st) * 2 ^ 0
  omega
 ·show (S + sp) * 2 ^ 0 = S + sp
  omega
theorem uE {h e n : Nat} (h1 : 2 ^ h ≤ n * 2 ^ e) (h2 : n * 2 ^ e < 2 * 2 ^ h) (h3 : 1 < n) : e < h := by
 rcases Nat.lt_or_ge e h with q | q
 ·exact q
 ·exfalso
  have : 2 ^ h ≤ 2 ^ e := Nat.pow_le_pow_right (by decide) q
  have : 2 * 2 ^ e ≤ n * 2 ^ e := Nat.mul_le_mul_right _ h3
  omega
theorem Bx {h e m : Nat} (he : e < h) (h1 : 2 ^ h ≤ (2 * m + 1) * 2 ^ e) : 2 ^ h ≤ m * 2 ^ (e + 1) := by
 have e1 : 2 ^ h = 2 ^ (h - e - 1) * 2 ^ (e + 1) := by
  rw [← Nat.pow_add]
  congr 1
  omega
 rw [e1] at h1 ⊢
 refine Nat.mul_le_mul_right _ ?_
 rw [Nat.pow_succ] at h1
 have h2 : 2 ^ (h - e - 1) * (2 ^ e * 2) = (2 * 2 ^ (h - e - 1)) * 2 ^ e := by
  rw [Nat.mul_comm (2 ^ e) 2, ← Nat.mul_assoc, Nat.mul_comm _ 2]
 rw [h2] at h1
 have := Nat.le_of_mul_le_mul_right h1 (Nat.two_pow_pos e)
 omega
theorem Cov.leftOdd {S st sp e low high : Nat} {ls rs : List Nat} (c : Cov S st sp e low high ls rs) (hS : ∃ h, S = 2 ^ h) (hsp : sp ≤ S) (h0 : 1 ≤ S) (hlt : low < high) (ho : low % 2 = 1) : Chain S st sp (ls ++ [low]) (S + st) ((low + 1) * 2 ^ e) := by
 obtain ⟨h, eS⟩ := hS
 obtain ⟨m, rfl⟩ : ∃ m, low = 2 * m + 1 := ⟨low / 2, by omega⟩
 have hp : 0 < 2 ^ e := Nat.two_pow_pos e
 have k1 : (2 * m + 1 + 1) * 2 ^ e ≤ high * 2 ^ e := Nat.mul_le_mul_right _ hlt
 have l1 := c.lo1
 have l2 := c.lo2
 have g1 := c.hi1
 have e1 : (2 * m + 1) / 2 = m := by omega
 have e2 : m * 2 ^ (e + 1) = 2 * (m * 2 ^ e) := by rw [Nat.pow_succ, ← Nat.mul_assoc, Nat.mul_comm]
 have e3 : (2 * m + 1) * 2 ^ e = 2 * (m * 2 ^ e) + 2 ^ e := by rw [Nat.add_mul, Nat.mul_assoc, Nat.one_mul]
 have e4 : (2 * m + 1 + 1) * 2 ^ e = 2 * (m * 2 ^ e) + 2 ^ e + 2 ^ e := by rw [Nat.add_mul, e3, Nat.one_mul]
 have e5 : (m + 1) * 2 ^ (e + 1) = 2 * (m * 2 ^ e) + 2 * 2 ^ e := by rw [Nat.add_mul, e2, Nat.one_mul, Nat.pow_succ]; omega
 refine c.left.append (.one ⟨by omega, by omega, by omega, fun h1 => ?_⟩)
 rw [e1]
 have ht : e < h := by
  refine uE (n := 2 * m + 1) ?_ ?_ h1
  ·rw [← eS]; omega
  ·rw [← eS]; omega
 have o := Bx (m := m) ht (by rw [← eS]; omega)
 rw [← eS] at o
 exact ⟨o, by omega, .inl (by omega)⟩
theorem Cov.rightOdd {S st sp e low high : Nat} {ls rs : List Nat} (c : Cov S st sp e low high ls rs) (hS : ∃ h, S = 2 ^ h) (hsp : sp ≤ S) (h0 : 1 ≤ S) (hlt : low < high) (ho : high % 2 = 1) : Chain S st sp (rs ++ [high - 1]).reverse ((high - 1) * 2 ^ e) (S + sp) := by
 obtain ⟨m, rfl⟩ : ∃ m, high = 2 * m + 1 := ⟨high / 2, by omega⟩
 have hp : 0 < 2 ^ e := Nat.two_pow_pos e
 have k1 : low * 2 ^ e ≤ (2 * m) * 2 ^ e := Nat.mul_le_mul_right _ (by omega)
 have l1 := c.lo1
 have g1 := c.hi1
 have g2 := c.hi2
 have hl0 : 1 ≤ low := by
  rcases Nat.eq_zero_or_pos low with q | q
  ·rw [q, Nat.zero_mul] at l1
   omega
  ·exact q
 have e2 : m * 2 ^ (e + 1) = 2 * (m * 2 ^ e) := by rw [Nat.pow_succ, ← Nat.mul_assoc, Nat.mul_comm]
 have e3 : (2 * m + 1) * 2 ^ e = 2 * (m * 2 ^ e) + 2 ^ e := by rw [Nat.add_mul, Nat.mul_assoc, Nat.one_mul]
 have e4 : (2 * m) * 2 ^ e = 2 * (m * 2 ^ e) := by rw [Nat.mul_assoc]
 have e5 : (m + 1) * 2 ^ (e + 1) = 2 * (m * 2 ^ e) + 2 * 2 ^ e := by rw [Nat.add_mul, e2, Nat.one_mul, Nat.pow_succ]; omega
 have e6 : 2 * m + 1 - 1 = 2 * m := by omega
 have e7 : 2 * m / 2 = m := by omega
 have hr := c.right
 rw [List.reverse_append, e6]
 refine Chain.append (l := [2 * m]) (.one ⟨by omega, by omega, by omega, fun h1 => ?_⟩) hr
 rw [e7]
 obtain ⟨h, eS⟩ := hS
 have ht : e < h := by
  refine uE (n := 2 * m) ?_ ?_ h1
  ·rw [← eS]; omega
  ·rw [← eS]; omega
 have e8 : 2 * S = 2 ^ (h - e) * 2 ^ (e + 1) := by
  rw [eS, ← Nat.pow_add, Nat.mul_comm, ← Nat.pow_succ]
  congr 1
  omega
 refine ⟨by omega, ?_, .inr (by omega)⟩
 rw [e8]
 refine Nat.mul_le_mul_right _ ?_
 have : m * 2 ^ (e + 1) < 2 ^ (h - e) * 2 ^ (e + 1) := by omega
 have := Nat.lt_of_mul_lt_mul_right this
 omega
theorem Cov.step {S st sp e low high : Nat} {ls rs : List Nat} (c : Cov S st sp e low high ls rs) (hS : ∃ h, S = 2 ^ h) (hsp : sp ≤ S) (h0 : 1 ≤ S) (hlt : low < high) :
  Cov S st sp (e + 1) ((low + low % 2) / 2) ((high - high % 2) / 2) (if low % 2 = 1 then ls ++ [low] else ls) (if high % 2 = 1 then rs ++ [high - 1] else rs) := by
 have l1 := c.lo1
 have l2 := c.lo2
 have g1 := c.hi1
 have g2 := c.hi2
 have hp : 0 < 2 ^ e := Nat.two_pow_pos e
 have ep : 2 ^ (e + 1) = 2 * 2 ^ e := by rw [Nat.pow_succ, Nat.mul_comm]
 have twice : ∀ m, m * 2 ^ (e + 1) = (2 * m) * 2 ^ e := fun m => by rw [ep, ← Nat.mul_assoc, Nat.mul_comm m 2]
 have el : 2 * ((low + low % 2) / 2) = low + low % 2 := by omega
 have eh : 2 * ((high - high % 2) / 2) = high - high % 2 := by omega
 have q1 : (low + low % 2) * 2 ^ e = low * 2 ^ e + (low % 2) * 2 ^ e := Nat.add_mul ..
 have q2 : (high - high % 2) * 2 ^ e + (high % 2) * 2 ^ e = high * 2 ^ e := by
  rw [← Nat.add_mul]
  congr 1
  omega
 have r1 : (low % 2) * 2 ^ e = if low % 2 = 1 then 2 ^ e else 0 := by
  split
  ·rename_i z; rw [z, Nat.one_mul]
  ·rename_i z; rw [show low % 2 = 0 from by omega, Nat.zero_mul]
 have r2 : (high % 2) * 2 ^ e = if high % 2 = 1 then 2 ^ e else 0 := by
  split
  ·rename_i z; rw [z, Nat.one_mul]
  ·rename_i z; rw [show high % 2 = 0 from by omega, Nat.zero_mul]
 refine ⟨?_, ?_, ?_, ?_, by omega, ?_, ?_⟩
 ·rw [twice, el, q1]
  omega
 ·rw [twice, el, q1, ep, r1]
  split <;> omega
 ·rw [twice, eh]
  omega
 ·rw [twice, eh, ep]
  rw [r2] at q2
  split at q2 <;> omega
 ·rw [twice, el]
  split
  ·rename_i z
   rw [z]
   exact c.leftOdd hS hsp h0 hlt z
  ·rename_i z
   rw [show low % 2 = 0 from by omega, Nat.add_zero]
   exact c.left
 ·rw [twice, eh]
  split
  ·rename_i z
   rw [z]
   exact c.rightOdd hS hsp h0 hlt z
  ·rename_i z
   rw [show high % 2 = 0 from by omega, Nat.sub_zero]
   exact c.right
theorem Cov.fin {S st sp e low high : Nat} {ls rs : List Nat} (c : Cov S st sp e low high ls rs) (h : high ≤ low) : Chain S st sp (ls ++ rs.reverse) (S + st) (S + sp) := by
 have : low = high := Nat.le_antisymm c.le h
 subst this
 exact c.left.append c.right
end Tw
namespace Tw
def uq : Nat → Nat → Nat → List Nat → List Nat → List Nat
 | 0, _, _, ls, rs => ls ++ rs.reverse
 | f + 1, low, high, ls, rs => if low < high then uq f ((low + low % 2) / 2) ((high - high % 2) / 2) (if low % 2 = 1 then ls ++ [low] else ls) (if high % 2 = 1 then rs ++ [high - 1] else rs) else ls ++ rs.reverse
theorem Av {f low high : Nat} {ls rs : List Nat} (h : high ≤ low) : uq f low high ls rs = ls ++ rs.reverse := by
 cases f with
 | zero => rfl
 | succ f =>
  unfold uq
  rw [if_neg (by omega)]
theorem qe {S st sp : Nat} (hS : ∃ h, S = 2 ^ h) (hsp : sp ≤ S) (h0 : 1 ≤ S) : ∀ (f e low high : Nat) (ls rs : List Nat), Cov S st sp e low high ls rs → high - low ≤ f → Chain S st sp (uq f low high ls rs) (S + st) (S + sp)
 | 0, e, low, high, ls, rs, c, h => c.fin (by omega)
 | f + 1, e, low, high, ls, rs, c, h => by
  unfold uq
  by_cases q : low < high
  ·rw [if_pos q]
   exact qe hS hsp h0 f (e + 1) _ _ _ _ (c.step hS hsp h0 q) (by omega)
  ·rw [if_neg q]
   exact c.fin (by omega)
def cover (S st sp : Nat) : List Nat := uq (sp - st) (S + st) (S + sp) [] []
theorem nT {S st sp : Nat} (hS : ∃ h, S = 2 ^ h) (h : st ≤ sp) (hsp : sp ≤ S) (h0 : 1 ≤ S) : Chain S st sp (cover S st sp) (S + st) (S + sp) :=
 qe hS hsp h0 _ 0 _ _ _ _ (.start h) (by omega)
end Tw
set_option Elab.async false
set_option linter.all false
set_option maxRecDepth 100000
set_option maxHeartbeats 4000000
namespace PySem
open PyProof.Rows
namespace F
end F
section
variable {prog : Program} {w : World} {A : Around} {E : Value → Shared → Prop} {s : Shared}
end
end PySem
namespace L2
open PySem PySem.Spec PyProof.Rows
section
variable {X : Cx} {tg : Expr}
theorem CW (a b : Nat) : Builtin.Range.rangeSize a b (-1) = ((a - b : Nat) : Int) := by
 unfold Builtin.Range.rangeSize
 rw [if_neg (by decide), show (- -1 : Int) = 1 from rfl, Int.ediv_one]
 split <;> omega
theorem vP {a b : Nat} (ha : a < 536870912) (hb : b < 536870912) : Builtin.Range.small a b (-1) = true := by
 unfold Builtin.Range.small Builtin.Range.rangeFitsLong
 rw [CW]
 have e : (2 : Int) ^ 63 = 9223372036854775808 := by decide
 rw [e, if_neg (by decide)]
 refine kj (kj (kj (kj (kj (decide_eq_true ?_) (decide_eq_true ?_)) (kj (decide_eq_true ?_) (decide_eq_true ?_))) (by decide)) (kj (decide_eq_true ?_) (decide_eq_true ?_))) ?_
 ·omega
 ·omega
 ·omega
 ·omega
 ·omega
 ·omega
 ·rw [Bool.or_eq_true]
  exact .inr (kj (decide_eq_true (by omega)) (decide_eq_true (by omega)))
def Ef (ta : TA) : TI := fun σ H R => ta σ H fun vs H1 => ∃ a b : Nat, vs = [.int (a : Int), .int (b : Int), .int (-1)] ∧ a < 536870912 ∧ b < 536870912 ∧ R (Its a (-1) (a - b)) H1
theorem w5 {a b c : Expr} {ta : TA} {p pos : Pos} (hg : Gl X "range") (hm : X.mg "range" = none) (ha : PA X [a, b, c] ta) (hs : starEach [a, b, c] X.env = [(false, eval a X.env), (false, eval b X.env), (false, eval c X.env)] := by rfl)
  (hs2 : starEach [b, c] X.env = [(false, eval b X.env), (false, eval c X.env)] := by rfl) : PI X tg (.Call (.Name "range" p) [a, b, c] [] pos) (Ef ta) := by
 intro pins s σ H R I h
 refine Call_ (dD I hg hm boot_range (PyProof.Rows.callWith_type1 (thn (ha pos pins s σ H _ I h) fun us s1 ⟨vs, H1, I1, r1, q1⟩ => ?_) (by rw [hs, hs2]) (by rw [hs2]; rfl)))
 obtain ⟨x, y, e, l0, l1, q⟩ := q1
 subst e
 cases r1 with
 | cons r rr =>
  cases rr with
  | cons r' rr =>
   cases rr with
   | cons r'' rr =>
    cases rr
    obtain ⟨t, rfl⟩ := r
    obtain ⟨t', rfl⟩ := r'
    obtain ⟨t'', rfl⟩ := r''
    refine call_range_3 (by decide) ?_ (.inl (PyProof.noPylong_small (by decide)))
    refine wpAny_pyIter_range (IsRange.new ..) (vP l0 l1) ?_
    have I2 : Inv X pins σ H1 { s1 with heap := s1.heap.push { cls := .type "range", data := .fields #[.int x t, .int y t', .int (-1) t''] }, toks := s1.toks } := I1.kept fun b o e => Heap.get?_push_of_some _ e
    refine ⟨(s1.heap.push { cls := .type "range", data := .fields #[.int x t, .int y t', .int (-1) t''] }).objs.size, [(s1.heap.push { cls := .type "range", data := .fields #[.int x t, .int y t', .int (-1) t''] }).objs.size], _, _, H1, rfl,
     I2.kept (t' := s1.toks) fun b o e => Heap.get?_push_of_some _ e, rN _ x (-1) (x - y), ?_, fun b hb => ?_, q⟩
    ·have e1 : (x : Int) + ((0 : Nat) : Int) * (-1) = x := by omega
     have e2 : ((x - y : Nat) : Int) - ((0 : Nat) : Int) = Builtin.Range.rangeSize x y (-1) := by rw [CW]; omega
     show IsRangeIter _ _ ((x : Int) + ((0 : Nat) : Int) * (-1)) (((x - y : Nat) : Int) - ((0 : Nat) : Int)) (-1)
     rw [e1, e2]
     exact Heap.get?_push_size _ rfl
    ·have e : b = (s1.heap.push { cls := .type "range", data := .fields #[.int x t, .int y t', .int (-1) t''] }).objs.size := by simpa using hb
     subst e
     exact I2.fpOk (Nat.le_refl _) (I2.hok.fresh (Nat.le_refl _))
end
end L2
set_option Elab.async false
set_option linter.all false
set_option maxRecDepth 100000
set_option maxHeartbeats 4000000
namespace Tw
open L2
def NI (x : V) : Prop := x = .non ∨ ∃ i, x = .int i
def rJ : V → V → V
 | .non, y => y
 | .int a, .int b => .int (if b < a then b else a)
 | x, _ => x
theorem qZ (y : V) : rJ .non y = y := by cases y <;> rfl
theorem Ao {x y : V} (hx : NI x) (hy : NI y) : NI (rJ x y) := by
 rcases hx with rfl | ⟨i, rfl⟩
 ·rw [qZ]
  exact hy
 ·rcases hy with rfl | ⟨j, rfl⟩
  ·exact .inr ⟨i, rfl⟩
  ·exact .inr ⟨_, rfl⟩
def ux (ns : List Int) (i : Nat) : V := match ns[i]? with | some c => .int c | none => .non
theorem qi {ns : List Int} {i : Nat} {c : Int} (h : ns[i]? = some c) : ux ns i = .int c := by
 unfold ux
 rw [h]
theorem wk {ns : List Int} {i : Nat} (h : ns.length ≤ i) : ux ns i = .non := by
 unfold ux
 rw [List.getElem?_eq_none h]
structure gA (ns : List Int) (S k : Nat) (xs : List V) : Prop where
 len : xs.length = 2 * S
 zero : xs[0]? = some .non
 leaf : ∀ i, i < S → xs[S + i]? = some (ux ns i)
 node : ∀ j, k ≤ j → 1 ≤ j → j < S → ∃ x y, xs[2 * j]? = some x ∧ xs[2 * j + 1]? = some y ∧ xs[j]? = some (rJ x y)
 ni : ∀ x ∈ xs, NI x
theorem gA.start {ns : List Int} {S : Nat} (h0 : 1 ≤ S) (hl : ns.length ≤ S) : gA ns S S (List.replicate S V.non ++ ns.map V.int ++ List.replicate (S - ns.length) V.non) := by
 refine ⟨?_, ?_, fun i hi => ?_, fun j h1 h2 h3 => by omega, fun x hx => ?_⟩
 ·simp only [List.length_append, List.length_replicate, List.length_map]
  omega
 ·rw [List.append_assoc, List.getElem?_append_left (by rw [List.length_replicate]; omega), List.getElem?_replicate, if_pos (by omega)]
 ·rw [List.append_assoc, List.getElem?_append_right (by rw [List.length_replicate]; omega), List.length_replicate, Nat.add_sub_cancel_left]
  by_cases h : i < ns.length
  ·rw [List.getElem?_append_left (by rw [List.length_map]; exact h), List.getElem?_map, List.getElem?_eq_getElem h, qi (List.getElem?_eq_getElem h)]
   rfl
  ·rw [List.getElem?_append_right (by rw [List.length_map]; omega), List.length_map, List.getElem?_replicate, if_pos (by omega), wk (by omega)]
 ·rcases List.mem_append.mp hx with hx | hx
  ·rcases List.mem_append.mp hx with hx | hx
   ·exact .inl (List.eq_of_mem_replicate hx)
   ·obtain ⟨i, _, rfl⟩ := List.mem_map.mp hx
    exact .inr ⟨i, rfl⟩
  ·exact .inl (List.eq_of_mem_replicate hx)
theorem gA.step {ns : List Int} {S k : Nat} {xs : List V} {x y : V} (h : gA ns S (k + 1) xs) (h1 : 1 ≤ k) (hk : k < S) (hx : xs[2 * k]? = some x) (hy : xs[2 * k + 1]? = some y) : gA ns S k (xs.set k (rJ x y)) := by
 have hl := h.len
 have oth : ∀ j, j ≠ k → (xs.set k (rJ x y))[j]? = xs[j]? := fun j hj => List.getElem?_set_ne (Ne.symm hj)
 refine ⟨by rw [List.length_set]; exact hl, ?_, fun i hi => ?_, fun j a b c => ?_, fun z hz => ?_⟩
 ·rw [oth 0 (by omega)]
  exact h.zero
 ·rw [oth (S + i) (by omega)]
  exact h.leaf i hi
 ·by_cases e : j = k
  ·subst e
   refine ⟨x, y, ?_, ?_, ?_⟩
   ·rw [oth (2 * j) (by omega)]
    exact hx
   ·rw [oth (2 * j + 1) (by omega)]
    exact hy
   ·exact List.getElem?_set_self (by omega)
  ·obtain ⟨u, v, e1, e2, e3⟩ := h.node j (by omega) b c
   refine ⟨u, v, ?_, ?_, ?_⟩
   ·rw [oth (2 * j) (by omega)]
    exact e1
   ·rw [oth (2 * j + 1) (by omega)]
    exact e2
   ·rw [oth j e]
    exact e3
 ·rcases List.mem_or_eq_of_mem_set hz with hz | rfl
  ·exact h.ni z hz
  ·exact Ao (h.ni x (List.mem_of_getElem? hx)) (h.ni y (List.mem_of_getElem? hy))
theorem bL {xs : List V} {j : Nat} {x : V} (h : xs[j]? = some x) : atI xs (j : Int) = some x := yc h
end Tw
set_option Elab.async false
set_option linter.all false
set_option maxRecDepth 100000
set_option maxHeartbeats 4000000
namespace Tw
open L2
def qb (ns : List Int) (a b : Nat) (M : Int) : Prop := (∃ i, a ≤ i ∧ i < b ∧ ns[i]? = some M) ∧ ∀ i c, a ≤ i → i < b → ns[i]? = some c → M ≤ c
theorem qb.join {ns : List Int} {a b c : Nat} {M N : Int} (h : qb ns a b M) (k : qb ns b c N) (hab : a ≤ b) (hbc : b ≤ c) : qb ns a c (if N < M then N else M) := by
 obtain ⟨⟨i, i1, i2, i3⟩, h2⟩ := h
 obtain ⟨⟨j, j1, j2, j3⟩, k2⟩ := k
 constructor
 ·split
  ·exact ⟨j, by omega, j2, j3⟩
  ·exact ⟨i, i1, by omega, i3⟩
 ·intro t x t1 t2 e
  rcases Nat.lt_or_ge t b with q | q
  ·have := h2 t x t1 q e
   split <;> omega
  ·have := k2 t x q t2 e
   split <;> omega
theorem gA.least {ns : List Int} {S : Nat} {xs : List V} (h : gA ns S 1 xs) (hl : ns.length ≤ S) : ∀ e n a : Nat, n * 2 ^ e = S + a → a + 2 ^ e ≤ ns.length → 1 ≤ n → ∃ M, xs[n]? = some (.int M) ∧ qb ns a (a + 2 ^ e) M
 | 0, n, a, h1, h2, h3 => by
  rw [Nat.pow_zero] at h2
  rw [Nat.pow_zero, Nat.mul_one] at h1
  have hg : ns[a]? = some ns[a] := List.getElem?_eq_getElem (by omega)
  have := h.leaf a (by omega)
  rw [← h1, qi hg] at this
  refine ⟨_, this, ⟨a, Nat.le_refl _, by omega, hg⟩, fun i c i1 i2 e => ?_⟩
  have : i = a := by omega
  subst this
  rw [hg] at e
  cases e
  exact Int.le_refl _
 | e + 1, n, a, h1, h2, h3 => by
  have hp : 0 < 2 ^ e := Nat.two_pow_pos e
  have ep : 2 ^ (e + 1) = 2 * 2 ^ e := by rw [Nat.pow_succ, Nat.mul_comm]
  rw [ep] at h1 h2
  have c1 : 2 * n * 2 ^ e = S + a := by rw [← h1, ← Nat.mul_assoc, Nat.mul_comm n 2]
  have c2 : (2 * n + 1) * 2 ^ e = S + (a + 2 ^ e) := by rw [Nat.add_mul, c1, Nat.one_mul]; omega
  have hn : n < S := by
   rcases Nat.lt_or_ge n S with z | z
   ·exact z
   ·exfalso
    have : S * (2 * 2 ^ e) ≤ n * (2 * 2 ^ e) := Nat.mul_le_mul_right _ z
    have : 2 * S ≤ S * (2 * 2 ^ e) := by
     rw [Nat.mul_comm 2 S]
     exact Nat.mul_le_mul_left _ (by omega)
    omega
  obtain ⟨M, e1, m1⟩ := gA.least h hl e (2 * n) a c1 (by omega) (by omega)
  obtain ⟨N, e2, m2⟩ := gA.least h hl e (2 * n + 1) (a + 2 ^ e) c2 (by omega) (by omega)
  obtain ⟨x, y, f1, f2, f3⟩ := h.node n h3 h3 hn
  rw [e1] at f1
  rw [e2] at f2
  cases f1
  cases f2
  refine ⟨_, f3, ?_⟩
  have := m1.join m2 (by omega) (by omega)
  rw [ep, show a + 2 * 2 ^ e = a + 2 ^ e + 2 ^ e from by omega]
  exact this
def lN (xs : List V) (n : Nat) : Int := match xs[n]? with | some (.int M) => M | _ => 0
theorem fK {xs : List V} {n : Nat} {M : Int} (h : xs[n]? = some (.int M)) : lN xs n = M := by
 unfold lN
 rw [h]
theorem j9 {ns : List Int} {S st sp : Nat} {xs : List V} (h : gA ns S 1 xs) (hl : ns.length ≤ S) (hsp : sp ≤ ns.length) : ∀ {l : List Nat} {a b : Nat}, Chain S st sp l (S + a) (S + b) → b ≤ sp →
  a ≤ b ∧ (∀ n ∈ l, 1 ≤ n ∧ n < 2 * S ∧ xs[n]? = some (.int (lN xs n))) ∧ (∀ v ∈ l.map (lN xs), ∃ i, a ≤ i ∧ i < b ∧ ns[i]? = some v) ∧ ∀ i c, a ≤ i → i < b → ns[i]? = some c → ∃ v ∈ l.map (lN xs), v ≤ c
 | [], a, b, hc, _ => by
  have hc : S + a = S + b := hc
  exact ⟨by omega, nofun, nofun, fun i c i1 i2 _ => by omega⟩
 | n :: r, a, b, hc, hb => by
  obtain ⟨e, e1, ⟨n1, n2, n3, _⟩, ch⟩ := hc
  have hp : 0 < 2 ^ e := Nat.two_pow_pos e
  have e5 : (n + 1) * 2 ^ e = S + (a + 2 ^ e) := by rw [Nat.succ_mul, e1]; omega
  rw [e5] at ch n3
  obtain ⟨i1, i2, i3, i4⟩ := j9 h hl hsp ch hb
  obtain ⟨M, m1, m2, m3⟩ := h.least hl e n a e1 (by omega) n1
  have ev := fK m1
  have hnl : n ≤ n * 2 ^ e := Nat.le_mul_of_pos_right _ hp
  refine ⟨by omega, fun k hk => ?_, fun v hv => ?_, fun i c j1 j2 ec => ?_⟩
  ·rcases List.mem_cons.mp hk with rfl | hk
   ·exact ⟨n1, by omega, by rw [ev]; exact m1⟩
   ·exact i2 k hk
  ·rw [List.map_cons] at hv
   rcases List.mem_cons.mp hv with rfl | hv
   ·obtain ⟨i, a1, a2, a3⟩ := m2
    exact ⟨i, a1, by omega, by rw [ev]; exact a3⟩
   ·obtain ⟨i, a1, a2, a3⟩ := i3 v hv
    exact ⟨i, by omega, a2, a3⟩
  ·rcases Nat.lt_or_ge i (a + 2 ^ e) with q | q
   ·exact ⟨M, by rw [List.map_cons, ev]; exact .head _, m3 i c j1 q ec⟩
   ·obtain ⟨v, v1, v2⟩ := i4 i c q j2 ec
    exact ⟨v, by rw [List.map_cons]; exact .tail _ v1, v2⟩
end Tw
set_option Elab.async false
set_option linter.all false
set_option maxRecDepth 100000
set_option maxHeartbeats 4000000
namespace Tw
open L2
theorem gA.kids {ns : List Int} {S : Nat} {xs : List V} (h : gA ns S 1 xs) (hl : ns.length ≤ S) {e m b : Nat} (h1 : m * 2 ^ (e + 1) = S + b) (h2 : b + 2 ^ (e + 1) ≤ ns.length) (h3 : 1 ≤ m) :
  ∃ M N, xs[2 * m]? = some (.int M) ∧ xs[2 * m + 1]? = some (.int N) ∧ qb ns b (b + 2 ^ e) M ∧ qb ns (b + 2 ^ e) (b + 2 ^ (e + 1)) N ∧ lN xs m = (if N < M then N else M) ∧ 2 * m * 2 ^ e = S + b ∧ (2 * m + 1) * 2 ^ e = S + (b + 2 ^ e) ∧ m < S := by
 have hp : 0 < 2 ^ e := Nat.two_pow_pos e
 have ep : 2 ^ (e + 1) = 2 * 2 ^ e := by rw [Nat.pow_succ, Nat.mul_comm]
 rw [ep] at h1 h2 ⊢
 have c1 : 2 * m * 2 ^ e = S + b := by rw [← h1, ← Nat.mul_assoc, Nat.mul_comm m 2]
 have c2 : (2 * m + 1) * 2 ^ e = S + (b + 2 ^ e) := by rw [Nat.add_mul, c1, Nat.one_mul]; omega
 have hn : m < S := by
  rcases Nat.lt_or_ge m S with z | z
  ·exact z
  ·exfalso
   have : S * (2 * 2 ^ e) ≤ m * (2 * 2 ^ e) := Nat.mul_le_mul_right _ z
   have : 2 * S ≤ S * (2 * 2 ^ e) := by
    rw [Nat.mul_comm 2 S]
    exact Nat.mul_le_mul_left _ (by omega)
   omega
 obtain ⟨M, e1, m1⟩ := h.least hl e (2 * m) b c1 (by omega) (by omega)
 obtain ⟨N, e2, m2⟩ := h.least hl e (2 * m + 1) (b + 2 ^ e) c2 (by omega) (by omega)
 obtain ⟨x, y, f1, f2, f3⟩ := h.node m h3 h3 hn
 rw [e1] at f1
 rw [e2] at f2
 cases f1
 cases f2
 refine ⟨M, N, e1, e2, m1, ?_, fK f3, c1, c2, hn⟩
 rw [show b + 2 * 2 ^ e = b + 2 ^ e + 2 ^ e from by omega]
 exact m2
def Hit (ns : List Int) (s x y : Nat) (g : Int) (i : Nat) : Prop := x ≤ i ∧ i < y ∧ (∃ c, ns[i]? = some c ∧ c ≤ g) ∧ ∀ j c, x ≤ j → j < y → (if s = 0 then j < i else i < j) → ns[j]? = some c → g < c
structure qN (ns : List Int) (xs : List V) (S s x y : Nat) (g : Int) (e m b : Nat) : Prop where
 at_ : m * 2 ^ e = S + b
 lo : x ≤ b
 hi : b + 2 ^ e ≤ y
 one : 1 ≤ m
 low : lN xs m ≤ g
 out : ∀ j c, x ≤ j → j < y → (if s = 0 then j < b else b + 2 ^ e ≤ j) → ns[j]? = some c → g < c
theorem qN.hit {ns : List Int} {xs : List V} {S s x y m b : Nat} {g : Int} (h : gA ns S 1 xs) (hl : ns.length ≤ S) (hy : y ≤ ns.length) (hs : s ≤ 1) (d : qN ns xs S s x y g 0 m b) : m = S + b ∧ Hit ns s x y g b := by
 have h1 := d.at_
 have h2 := d.hi
 rw [Nat.pow_zero] at h1 h2
 obtain ⟨M, e1, ⟨i, i1, i2, i3⟩, _⟩ := h.least hl 0 m b d.at_ (by rw [Nat.pow_zero]; omega) d.one
 have ei : i = b := by rw [Nat.pow_zero] at i2; omega
 subst ei
 have hlow := d.low
 rw [fK e1] at hlow
 refine ⟨by omega, d.lo, by omega, ⟨M, i3, hlow⟩, fun j c j1 j2 j3 ec => d.out j c j1 j2 ?_ ec⟩
 split
 ·rename_i z
  rw [if_pos z] at j3
  exact j3
 ·rename_i z
  rw [if_neg z] at j3
  rw [Nat.pow_zero]
  omega
theorem qN.step {ns : List Int} {xs : List V} {S s x y m b e : Nat} {g : Int} (h : gA ns S 1 xs) (hl : ns.length ≤ S) (hy : y ≤ ns.length) (hs : s ≤ 1) (d : qN ns xs S s x y g (e + 1) m b) :
  ∃ v, xs[2 * m + s]? = some (.int v) ∧ m < S ∧ 2 * m + s < 2 * S ∧ (v ≤ g → ∃ b', qN ns xs S s x y g e (2 * m + s) b') ∧ (g < v → ∃ b', qN ns xs S s x y g e (2 * m + 1 - s) b') := by
 have hhi := d.hi
 have hlo := d.lo
 have hone := d.one
 have hp : 0 < 2 ^ e := Nat.two_pow_pos e
 have ep : 2 ^ (e + 1) = 2 * 2 ^ e := by rw [Nat.pow_succ, Nat.mul_comm]
 obtain ⟨M, N, e1, e2, m1, m2, ev, c1, c2, hm⟩ := h.kids hl d.at_ (by omega) hone
 have hlow := d.low
 rw [ev] at hlow
 have hout := d.out
 rw [ep] at hhi hout m2
 rcases (show s = 0 ∨ s = 1 by omega) with rfl | rfl
 ·refine ⟨M, e1, hm, by omega, fun hv => ⟨b, c1, hlo, by omega, by omega, by rw [Nat.add_zero, fK e1]; exact hv, fun j c j1 j2 j3 ec => hout j c j1 j2 j3 ec⟩, fun hv => ⟨b + 2 ^ e, c2, by omega, by omega, by omega, ?_, fun j c j1 j2 j3 ec => ?_⟩⟩
  ·show lN xs (2 * m + 1 - 0) ≤ g
   rw [Nat.sub_zero, fK e2]
   split at hlow <;> omega
  ·rw [if_pos rfl] at j3
   rcases Nat.lt_or_ge j b with z | z
   ·exact hout j c j1 j2 (by rw [if_pos rfl]; exact z) ec
   ·have := m1.2 j c z j3 ec
    omega
 ·refine ⟨N, e2, hm, by omega, fun hv => ⟨b + 2 ^ e, c2, by omega, by omega, by omega, by rw [fK e2]; exact hv, fun j c j1 j2 j3 ec => hout j c j1 j2 ?_ ec⟩, fun hv => ⟨b, ?_, hlo, by omega, by omega, ?_, fun j c j1 j2 j3 ec => ?_⟩⟩
  ·rw [if_neg (by decide)] at j3 ⊢
   omega
  ·rw [Nat.add_sub_cancel]
   exact c1
  ·rw [Nat.add_sub_cancel, fK e1]
   split at hlow <;> omega
  ·rw [if_neg (by decide)] at j3
   rcases Nat.lt_or_ge j (b + 2 * 2 ^ e) with z | z
   ·have := m2.2 j c j3 z ec
    omega
   ·exact hout j c j1 j2 (by rw [if_neg (by decide)]; exact z) ec
theorem qN.start {ns : List Int} {xs : List V} {S s n a e : Nat} {g : Int} (h1 : n * 2 ^ e = S + a) (h2 : 1 ≤ n) (h3 : lN xs n ≤ g) : qN ns xs S s a (a + 2 ^ e) g e n a :=
 ⟨h1, Nat.le_refl _, Nat.le_refl _, h2, h3, fun j c j1 j2 j3 _ => by split at j3 <;> omega⟩
theorem ou {S st sp : Nat} : ∀ {l : List Nat} {x y : Nat} (k : Nat), Chain S st sp l x y → ∃ z, Chain S st sp (l.take k) x z ∧ Chain S st sp (l.drop k) z y
 | l, x, y, 0, h => ⟨x, rfl, h⟩
 | [], x, y, k + 1, h => ⟨x, rfl, h⟩
 | n :: r, x, y, k + 1, h => by
  obtain ⟨e, h1, h2, h3⟩ := h
  obtain ⟨z, z1, z2⟩ := ou k h3
  exact ⟨z, ⟨e, h1, h2, z1⟩, z2⟩
theorem ur {S st sp : Nat} : ∀ {l : List Nat} {x y : Nat}, Chain S st sp l x y → x ≤ y
 | [], x, y, h => Nat.le_of_eq h
 | n :: r, x, y, h => by
  obtain ⟨e, h1, _, h3⟩ := h
  have := ur h3
  have : n * 2 ^ e ≤ (n + 1) * 2 ^ e := Nat.mul_le_mul_right _ (Nat.le_succ _)
  omega
end Tw
set_option Elab.async false
set_option linter.all false
set_option maxRecDepth 100000
set_option maxHeartbeats 4000000
namespace Tw
def ahd (ns : List Int) (n : Nat) : List Int := (List.range (n + 1)).map fun k => (ns.take (32 * k)).sum
theorem gn (ns : List Int) (n : Nat) : (ahd ns n).length = n + 1 := by simp [ahd]
theorem lu {ns : List Int} {n k : Nat} (h : k ≤ n) : (ahd ns n)[k]? = some (ns.take (32 * k)).sum := by
 have : k < n + 1 := by omega
 simp [ahd, this]
def gM (bs : List Int) (k : Nat) : Int := ((bs.take k).map fun b => ones b 32).sum
theorem nW {bs : List Int} {k : Nat} {b : Int} (h : bs[k]? = some b) : gM bs (k + 1) = gM bs k + ones b 32 := by
 unfold gM
 rw [List.take_add_one, h]
 simp [List.sum_append]
def eQ (bs : List Int) (n : Nat) : List Int := (List.range (n + 1)).map (gM bs)
theorem qX (bs : List Int) (n : Nat) : (eQ bs n).length = n + 1 := by simp [eQ]
theorem uG (bs : List Int) (n : Nat) : eQ bs (n + 1) = eQ bs n ++ [gM bs (n + 1)] := by
 unfold eQ
 rw [List.range_succ, List.map_append]
 rfl
theorem vh (bs : List Int) (n : Nat) : eQ bs n = (List.range n).map (gM bs) ++ [gM bs n] := by
 unfold eQ
 rw [List.range_succ, List.map_append]
 rfl
theorem lR {ns : List Int} (h : aU ns) : ∀ k : Nat, k ≤ many ns.length → gM (dw ns) k = (ns.take (32 * k)).sum
 | 0, _ => by simp [gM]
 | k + 1, hk => by
  rw [nW (dJ (by omega)), lR h k (by omega), jT h k 32 (by omega)]
  rfl
theorem sY {ns : List Int} (h : aU ns) : eQ (dw ns) (dw ns).length = ahd ns (many ns.length) := by
 rw [fH]
 unfold eQ ahd
 refine List.map_congr_left fun k hk => ?_
 have := List.mem_range.mp hk
 exact lR h k (by omega)
def wide (n j : Nat) : Nat := min 32 (n - 32 * j)
def rM (ns : List Int) (j : Nat) (m : Int) : Prop := (∃ k, 32 * j < k ∧ k ≤ 32 * j + 32 ∧ k ≤ ns.length ∧ m = ht ns k) ∧ ∀ k, 32 * j < k → k ≤ 32 * j + 32 → k ≤ ns.length → m ≤ ht ns k
theorem rM.of {ns : List Int} (h : aU ns) {j : Nat} {M : Int} (hM : M ∈ nets (bU ns j) (wide ns.length j)) (hle : ∀ a ∈ nets (bU ns j) (wide ns.length j), M ≤ a) : rM ns j (ht ns (32 * j) + M) := by
 unfold wide at *
 constructor
 ·obtain ⟨k, k1, k2, rfl⟩ := vJ.mp hM
  refine ⟨32 * j + k, by omega, by omega, by omega, ?_⟩
  rw [lw h j k (by omega)]
 ·intro k k1 k2 k3
  have := hle _ (vJ.mpr ⟨k - 32 * j, by omega, by omega, rfl⟩)
  have e := lw h j (k - 32 * j) (by omega)
  rw [show 32 * j + (k - 32 * j) = k from by omega] at e
  omega
structure xm (ns ls : List Int) : Prop where
 len : ls.length = many ns.length
 low : ∀ j m, ls[j]? = some m → rM ns j m
theorem Tree.pos {ns : List Int} (t : Tree ns) {k : Nat} (h : k ≤ ns.length) : 0 ≤ ht ns k := by
 obtain ⟨t1, t2, t3⟩ := t
 rcases Nat.eq_zero_or_pos k with rfl | h0
 ·rw [fB]
  decide
 rcases Nat.lt_or_ge k ns.length with q | q
 ·have := t3 k h0 q
  omega
 ·have : k = ns.length := by omega
  rw [this, t2]
  decide
end Tw
set_option Elab.async false
set_option linter.all false
set_option maxRecDepth 100000
set_option maxHeartbeats 4000000
namespace Tw
def cR (ns : List Int) (a b : Nat) (g : Int) (k : Nat) : Prop := a < k ∧ k ≤ b ∧ ht ns k ≤ g ∧ ∀ i, a < i → i < k → g < ht ns i
def gF (ns : List Int) (a b : Nat) (g : Int) (k : Nat) : Prop := a < k ∧ k ≤ b ∧ ht ns k ≤ g ∧ ∀ i, k < i → i ≤ b → g < ht ns i
def cg (ns : List Int) (a b : Nat) (g : Int) : Prop := ∀ i, a < i → i ≤ b → g < ht ns i
theorem lW {ns : List Int} (h : aU ns) {j st sp k : Nat} {g : Int} (hsp : sp ≤ 32) : Due (bU ns j) st sp (g - ht ns (32 * j)) k ↔ st < k ∧ k ≤ sp ∧ ht ns (32 * j + k) ≤ g := by
 unfold Due
 constructor
 ·rintro ⟨a, b, c⟩
  have := lw h j k (by omega)
  exact ⟨a, b, by omega⟩
 ·rintro ⟨a, b, c⟩
  have := lw h j k (by omega)
  exact ⟨a, b, by omega⟩
theorem first_within {ns : List Int} (h : aU ns) {j st sp k : Nat} {g : Int} (hsp : sp ≤ 32) (hd : Due (bU ns j) st sp (g - ht ns (32 * j)) k) (hm : ∀ i, Due (bU ns j) st sp (g - ht ns (32 * j)) i → k ≤ i) : cR ns (32 * j + st) (32 * j + sp) g (32 * j + k) := by
 obtain ⟨a, b, c⟩ := (lW h hsp).mp hd
 refine ⟨by omega, by omega, c, fun i i1 i2 => ?_⟩
 rcases Int.lt_or_le g (ht ns i) with q | q
 ·exact q
 ·have := hm (i - 32 * j) ((lW h hsp).mpr ⟨by omega, by omega, by rw [show 32 * j + (i - 32 * j) = i from by omega]; exact q⟩)
  omega
theorem last_within {ns : List Int} (h : aU ns) {j st sp k : Nat} {g : Int} (hsp : sp ≤ 32) (hd : Due (bU ns j) st sp (g - ht ns (32 * j)) k) (hm : ∀ i, Due (bU ns j) st sp (g - ht ns (32 * j)) i → i ≤ k) : gF ns (32 * j + st) (32 * j + sp) g (32 * j + k) := by
 obtain ⟨a, b, c⟩ := (lW h hsp).mp hd
 refine ⟨by omega, by omega, c, fun i i1 i2 => ?_⟩
 rcases Int.lt_or_le g (ht ns i) with q | q
 ·exact q
 ·have := hm (i - 32 * j) ((lW h hsp).mpr ⟨by omega, by omega, by rw [show 32 * j + (i - 32 * j) = i from by omega]; exact q⟩)
  omega
theorem oh {ns : List Int} (h : aU ns) {j st sp : Nat} {g : Int} (hsp : sp ≤ 32) (hm : ∀ i, ¬ Due (bU ns j) st sp (g - ht ns (32 * j)) i) : cg ns (32 * j + st) (32 * j + sp) g := fun i i1 i2 => by
 rcases Int.lt_or_le g (ht ns i) with q | q
 ·exact q
 ·exact absurd ((lW h hsp).mpr ⟨by omega, by omega, by rw [show 32 * j + (i - 32 * j) = i from by omega]; exact q⟩) (hm (i - 32 * j))
theorem cg.join {ns : List Int} {a b c : Nat} {g : Int} (h : cg ns a b g) (k : cg ns b c g) : cg ns a c g := fun i i1 i2 => by
 rcases Nat.lt_or_ge b i with q | q
 ·exact k i q i2
 ·exact h i i1 q
theorem cg.empty {ns : List Int} {a b : Nat} {g : Int} (h : b ≤ a) : cg ns a b g := fun i i1 i2 => by omega
theorem xm.none {ns ls : List Int} (h : xm ns ls) {i j : Nat} {g : Int} (h2 : ∀ t c, i ≤ t → t < j → ls[t]? = some c → g < c) {b : Nat} (hb : b ≤ 32 * j) (hn : b ≤ ns.length) : cg ns (32 * i) b g := fun k k1 k2 => by
 have hl := h.len
 have ht : (k - 1) / 32 < ls.length := by
  rw [hl]
  unfold many
  omega
 have e := List.getElem?_eq_getElem ht
 have a1 := h2 ((k - 1) / 32) _ (by omega) (by omega) e
 have a2 := (h.low _ _ e).2 k (by omega) (by omega) (by omega)
 omega
theorem xm.some {ns ls : List Int} (h : xm ns ls) {t : Nat} {c g : Int} (e : ls[t]? = .some c) (hc : c ≤ g) : ¬ cg ns (32 * t) (min (32 * t + 32) ns.length) g := fun z => by
 obtain ⟨⟨k, k1, k2, k3, ek⟩, _⟩ := h.low t c e
 have := z k k1 (by omega)
 omega
theorem cR.after {ns : List Int} {a b c k : Nat} {g : Int} (h : cg ns a b g) (f : cR ns b c g k) (hab : a ≤ b) : cR ns a c g k := by
 obtain ⟨f1, f2, f3, f4⟩ := f
 refine ⟨by omega, f2, f3, fun i i1 i2 => ?_⟩
 rcases Nat.lt_or_ge b i with q | q
 ·exact f4 i q i2
 ·exact h i i1 q
theorem cR.wider {ns : List Int} {a b c k : Nat} {g : Int} (f : cR ns a b g k) (h : b ≤ c) : cR ns a c g k := ⟨f.1, by have := f.2.1; omega, f.2.2⟩
theorem gF.ahead {ns : List Int} {a b c k : Nat} {g : Int} (h : cg ns b c g) (f : gF ns a b g k) (hbc : b ≤ c) : gF ns a c g k := by
 obtain ⟨f1, f2, f3, f4⟩ := f
 refine ⟨f1, by omega, f3, fun i i1 i2 => ?_⟩
 rcases Nat.lt_or_ge b i with q | q
 ·exact h i q i2
 ·exact f4 i i1 q
theorem gF.wider {ns : List Int} {a a' b k : Nat} {g : Int} (f : gF ns a b g k) (h : a' ≤ a) : gF ns a' b g k := ⟨by have := f.1; omega, f.2⟩
def fV (ns : List Int) (b : Nat) (g : Int) (k : Nat) : Prop := k < b ∧ ht ns k ≤ g ∧ ∀ i, k < i → i < b → g < ht ns i
def DP (ns : List Int) (b : Nat) (g : Int) : Prop := ∀ i, i < b → g < ht ns i
theorem zV {ns : List Int} (h : aU ns) {k : Nat} (hk : k < ns.length) : (ns[k]? = some 1 ∧ ht ns (k + 1) = ht ns k + 1) ∨ (ns[k]? = some 0 ∧ ht ns (k + 1) = ht ns k - 1) := by
 have e := List.getElem?_eq_getElem hk
 rcases h _ (List.getElem_mem hk) with z | z
 ·right
  rw [z] at e
  exact ⟨e, by rw [dR e]; omega⟩
 ·left
  rw [z] at e
  exact ⟨e, by rw [dR e]; omega⟩
end Tw
set_option Elab.async false
set_option linter.all false
set_option maxRecDepth 100000
set_option maxHeartbeats 4000000
namespace L2
open PySem PySem.Spec PyProof.Rows
structure uc (X : Cx) (x z : Str) (caps : List (Str × Nat)) (scope : Scope) (cl : List (Str × Addr)) : Prop where
 o : dM X x caps scope cl
 hz : scope.names.lookup z = some .local
 nd : (x :: z :: caps.map (·.1)).Nodup
section
variable {X : Cx} {pins : List (Addr × Obj)} {σ : St} {H : Hp} {s : Shared}
theorem Inv.comp2 {x z : Str} {caps : List (Str × Nat)} {scope : Scope} {cl : List (Str × Addr)} {fp : List Addr} {h' : Heap} {tk : Nat} {m : Str → Option Value} {D C : Addr} (I : Inv X pins σ H s) (K0 : uc X x z caps scope cl) (hf : ∀ b ∈ fp, iQ X pins H b)
    (hfs : ∀ b ∈ fp, b < s.heap.objs.size) (hD : s.heap.objs.size ≤ D) (hC : s.heap.objs.size ≤ C) (hDC : D ≠ C) (hk : ∀ b o, s.heap.get? b = some o → h'.get? b = some o) (hn : h'.Ns C m) (hL : h'.get? D = some { cls := .type "list", data := .seq #[] }) :
    Inv (bC X (x :: z :: caps.map (·.1)) scope cl C s H fp) [] (none :: none :: fu caps σ) (upd H D (.lst [])) { s with heap := h', toks := tk } := by
  have hnD := I.hok.fresh hD
  have hnC := I.hok.fresh hC
  have lkc : ∀ y c, (bC X (x :: z :: caps.map (·.1)) scope cl C s H fp).env.cells.lookup y = some c → X.env.cells.lookup y = some c := fun y c e => K0.o.cls y c e
  have clt : ∀ y c, X.env.cells.lookup y = some c → c < s.heap.objs.size := fun y c e => by
    obtain ⟨v, q⟩ := I.cell y c e
    exact q.lt
  have up : ∀ b u, H b = some u → upd H D (.lst []) b = some u := fun b u q => by rw [aC (aB q hnD)]; exact q
  have ok : (bC X (x :: z :: caps.map (·.1)) scope cl C s H fp).Ok := by
    refine ⟨I.ok.mod, K0.o.kind, I.ok.glob, I.ok.blt, hC, fun y z c h1 h2 => I.ok.inj y z c (lkc y c h1) (lkc z c h2), fun y hy => K0.o.has y hy, fun y c h => absurd (show false = true from h) Bool.false_ne_true, I.ok.hd, I.ok.frames, .inl rfl, fun b hb => ?_, I.bs, Nat.le_trans I.ok.bsz I.sz, fun b o e hb => ?_, fun b hb hz => ?_, I.stack, I.stkFree⟩
    · obtain ⟨f0, f1, f2, f3, f4, f5⟩ := hf b hb
      exact ⟨Nat.ne_of_lt (Nat.lt_of_lt_of_le (hfs b hb) hC), fun y c e => f4 y c (lkc y c e)⟩
    · obtain ⟨f0, f1, f2, f3, f4, f5⟩ := hf b hb
      rcases f3 with z | z
      · exact I.ok.noex b o e z
      · exact absurd (Nat.lt_of_lt_of_le (Nat.lt_of_lt_of_le (Heap.lt_size e) I.ok.bsz) z) (Nat.lt_irrefl _)
    · obtain ⟨f0, f1, f2, f3, f4, f5⟩ := hf b hb
      rcases List.mem_cons.mp (I.stkSub b hz) with z | z
      · exact f1 z
      · exact f2 z
  refine ⟨ok, rfl, I.bare, ?_, ⟨m, hn, fun i y v e1 e2 e3 => ?_⟩, fun y c e => ?_, ?_, fun y c e => ?_, fun p hp => absurd (show p ∈ ([] : List (Addr × Obj)) from hp) (by simp), ?_, ?_⟩
  · exact Un.laid hk hD hnD
  · cases i with
    | zero => cases e2
    | succ i =>
     cases i with
     | zero => cases e2
     | succ i =>
      have e1' : (caps.map (·.1))[i]? = some y := e1
      have e2' : (fu caps σ)[i]? = some (some v) := e2
      rw [List.getElem?_map] at e1'
      unfold fu at e2'
      rw [List.getElem?_map] at e2'
      cases ec : caps[i]? with
      | none => rw [ec] at e1'; cases e1'
      | some p =>
        rw [ec] at e1' e2'
        obtain ⟨y', j⟩ := p
        have ey : y' = y := Option.some.inj e1'
        subst ey
        have ev : (σ[j]?).getD none = some v := Option.some.inj e2'
        have ev' : σ[j]? = some (some v) := by
          cases q : σ[j]? with
          | none => rw [q] at ev; cases ev
          | some w => rw [q] at ev; exact congrArg some ev
        obtain ⟨c1, c2, c3⟩ := K0.o.cap y' j (List.mem_of_getElem? ec)
        obtain ⟨m0, hn0, hl⟩ := I.loc
        obtain ⟨u, r, l⟩ := hl j y' v c1 ev' (by rcases c2 with z | z; exact .inr (.inl z); exact .inr (.inr z))
        refine ⟨u, r, .inr ⟨c3, ?_⟩⟩
        rcases l with ⟨k, _⟩ | ⟨k, c, ec, z⟩
        · have k' : X.env.scope.names.lookup y' = some .local := k
          rcases c2 with z | z
          · rw [z] at k'; cases k'
          · rw [z] at k'; cases k'
        · obtain ⟨c', hc'⟩ := K0.o.has y' c3
          have e4 := K0.o.cls y' c' hc'
          rw [ec] at e4
          cases e4
          obtain ⟨o, ho, hd⟩ := z
          exact ⟨c, hc', o, hk _ _ ho, hd⟩
  · obtain ⟨v, o, ho, hd⟩ := I.cell y c (lkc y c e)
    exact ⟨v, o, hk _ _ ho, hd⟩
  · show upd H D (.lst []) C = none
    rw [aC (Ne.symm hDC)]
    exact hnC
  · have hlt := clt y c (lkc y c e)
    rw [aC (Nat.ne_of_lt (Nat.lt_of_lt_of_le hlt hD))]
    exact I.freeC y c (lkc y c e)
  · exact I.hok.laid hk hD ⟨Nat.zero_le _, [], _, .nil, hL⟩
  · show (none :: none :: fu caps σ).length = (x :: z :: caps.map (·.1)).length
    simp [oA]
def su (K : PySem.W.Frag) (J : It) (cap : St) (te : TE) (Qf : Addr → Hp → Prop) (H : Hp) : Prop :=
 ∀ D, H D = none → ∃ W : Nat → Nat → List V → Hp → Prop, (∃ m, W 0 m [] (upd H D (.lst []))) ∧ ∀ i m ys H1, W i m ys H1 →
  (J.stop i H1 ∧ Qf D H1) ∨ (J.go i H1 ∧ ∀ v H2, J.yld i H1 v H2 → ∃ ta v1 v2, v = .ref ta ∧ SqT K H2 ta [v1, v2] ∧
   te (some v1 :: some v2 :: cap) H2 fun y H4 => H4 D = some (.lst ys) ∧ ys.length < sizeLine ∧ ∃ m', m' < m ∧ W (i + 1) m' (ys ++ [y]) (upd H4 D (.lst (ys ++ [y]))))
theorem wU {x z : Str} {px pz tp pos : Pos} {tx : Nat} {caps : List (Str × Nat)} {scope : Scope} {cl : List (Str × Addr)} {elt iter : Expr} {J : It} {fp : List Addr} {it : Addr} {tn : Nat → Heap → Prop} {te : TE} {Qf : Addr → Hp → Prop}
  {RR : Value → Addr → Result → Shared → Prop} {E : Value → Shared → Prop} (I : Inv X pins σ H s) (hc : X.calm = true) (K0 : uc X x z caps scope cl) (T : Turn X.prog X.w X.K (.Tuple [.Name x px, .Name z pz] tx tp) J fp it tn) (st : tn 0 s.heap) (hf : ∀ b ∈ fp, iQ X pins H b)
  (he : ∀ C s1 H1 fp1, PE (bC X (x :: z :: caps.map (·.1)) scope cl C s1 H1 fp1) elt te) (rd : su X.K J (fu caps σ) te Qf H)
  (hRR : ∀ D C s' H' m, Inv X pins σ H' s' → s'.heap.Ns C m → iQ X pins H' C → Qf D H' → RR (.ref D) C (.ok .next) s') :
  wpAny (model X.prog X.w) X.A (newList []) (fun acc s3 => wpAny (model X.prog X.w) X.A (newFunctionEnv scope X.env.globals cl [] X.env.qual none .none (some X.env)) (fun cenv s4 =>
   codeAny (model X.prog X.w) X.A (.compStart (.ListComp elt [⟨.Tuple [.Name x px, .Name z pz] tx tp, iter, [], 0⟩] scope pos) 0 (.ref it) acc { cenv with scope := relabel scope X.env }) (RR acc cenv.locals) s4) E s3) E s := by
 have hfs : ∀ b ∈ fp, b < s.heap.objs.size := fun b hb => by
  obtain ⟨o, e, _⟩ := T.obj _ _ st b hb
  exact Heap.lt_size e
 refine wpAny_newObj_type (wpAny_newFunctionEnv K0.o.nocell (by intro y hy; simp at hy) (fun h1 hn1 hb1 => ?_) K0.o.kind)
 dsimp only at hn1 hb1 ⊢
 obtain ⟨D, eD⟩ : ∃ D : Nat, D = s.heap.objs.size := ⟨_, rfl⟩
 obtain ⟨H2, eH2⟩ : ∃ g, g = s.heap.push { cls := .type "list", dict := none, data := .seq ([] : List Value).toArray } := ⟨_, rfl⟩
 rw [← eH2] at hn1 hb1 ⊢
 rw [← eD]
 have hC : H2.objs.size = D + 1 := by rw [eH2, Heap.size_push, eD]
 have hle : s.heap.objs.size ≤ H2.objs.size := by rw [hC, eD]; exact Nat.le_succ _
 have hDC : D ≠ H2.objs.size := by rw [hC]; exact Nat.ne_of_lt (Nat.lt_succ_self _)
 have hk : ∀ b o, s.heap.get? b = some o → h1.get? b = some o := fun b o e => by
  refine hb1.extBut b o (Nat.ne_of_lt (Nat.lt_of_lt_of_le (Heap.lt_size e) hle)) (Heap.get?_push_of_some _ ?_)
  rw [eH2]
  exact Heap.get?_push_of_some _ e
 have hL : h1.get? D = some { cls := .type "list", data := .seq #[] } := by
  refine hb1.extBut D _ (by omega) (Heap.get?_push_of_some _ ?_)
  rw [eH2, eD]
  exact Heap.get?_push_size _ rfl
 have st1 : tn 0 h1 := T.keep _ _ _ st fun b _ o e => hk b o e
 obtain ⟨W, ⟨m0, w0⟩, turn⟩ := rd D (I.hok.fresh (by omega))
 have loop : codeAny (model X.prog X.w) X.A (.compLoop (.ListComp elt [⟨.Tuple [.Name x px, .Name z pz] tx tp, iter, [], 0⟩] scope pos) 0 (.ref it) (.ref D) (compEnvC scope cl H2.objs.size X.env)) (RR (.ref D) H2.objs.size) { s with heap := h1, toks := s.toks + ([] : List (Str × Value)).length } := by
  refine LCp.codeAny_compLoop_pair (fun n s' => ∃ i ys sl sm H', Inv (bC X (x :: z :: caps.map (·.1)) scope cl H2.objs.size s H fp) [] (sl :: sm :: fu caps σ) H' s' ∧ tn i s'.heap ∧ (∀ b ∈ fp, H' b = none) ∧ W i n ys H') ?_ m0
   ⟨0, [], none, none, _, I.comp2 K0 hf hfs (by omega) (by omega) hDC hk hn1 hL, st1, fun b hb => ?_, w0⟩
  ·rintro n s3 ⟨i, ys, sl, sm, H3, I3, st3, fr3, w3⟩
   have fpc : ∀ {H' : Hp} {pi : List (Addr × Obj)}, (∀ b ∈ fp, H' b = none) → (∀ p ∈ pi, p.1 ∉ fp) → ∀ b ∈ fp, iQ (bC X (x :: z :: caps.map (·.1)) scope cl H2.objs.size s H fp) pi H' b := fun {H' pi} hn hp b hb => by
    obtain ⟨f0, f1, f2, f3, f4, f5⟩ := hf b hb
    refine ⟨hn b hb, ?_, fun z => ?_, .inl hb, fun y c e => f4 y c (K0.o.cls y c e), fun p hpp z => ?_⟩
    ·exact Nat.ne_of_lt (Nat.lt_of_lt_of_le (hfs b hb) hle)
    ·rcases List.mem_cons.mp (I.stkSub b z) with q | q
     ·exact f1 q
     ·exact f2 q
    ·exact hp p (by simpa [bC] using hpp) (by rw [z]; exact hb)
   have clear : ∀ {α : Type} {t : Sem α} {Q : α → Shared → Prop} {E' : Value → Shared → Prop} {s : Shared}, wpAny (model X.prog X.w) X.A t Q (fun _ _ => False) s → wpAny (model X.prog X.w) X.A t Q E' s := fun h => wpAny_mono h (fun _ _ z => z) fun _ _ z => z.elim
   rcases turn i n ys H3 w3 with ⟨stop, qf⟩ | ⟨go, step⟩
   ·refine thn (T.done (bC X (x :: z :: caps.map (·.1)) scope cl H2.objs.size s H fp) rfl rfl rfl hc i [] s3 _ H3 _ I3 (fpc fr3 (by simp)) st3 stop) fun r s4 ⟨hr, I4⟩ => ?_
    subst hr
    obtain ⟨m4, hn4, _⟩ := id I4.loc
    refine hRR D _ s4 H3 m4 (I.comped hf I4) hn4 ?_ qf
    have gC : s.heap.objs.size ≤ H2.objs.size := by omega
    exact I.fpOk gC I4.free
   ·refine clear (thn (T.item (bC X (x :: z :: caps.map (·.1)) scope cl H2.objs.size s H fp) rfl rfl rfl hc i [] s3 _ H3 (fun _ _ => False) I3 (fpc fr3 (by simp)) st3 go) fun r s4 ⟨u, hr, h4⟩ => ?_)
    subst hr
    refine clear (thn h4 fun _ s5 ⟨v, H5, I5, r5, y5, st5, fr5⟩ => ?_)
    have I5' := I5.pinned (fpc fr5 (by simp)) (T.obj _ _ st5)
    obtain ⟨ta, v1, v2, ev, ht5, q6⟩ := step v _ y5
    subst ev
    have hg : PG (bC X (x :: z :: caps.map (·.1)) scope cl H2.objs.size s H fp) (.Tuple [.Name x px, .Name z pz] tx tp) (Eu X.K 2 (Ah (pG 0) (Ah (pG 1) Fl))) :=
     mU hc (cF (bh (i := 0) K0.nd rfl (Or.inl (lookup_relabel_local K0.o.hx)) (Or.inr (lookup_relabel_local K0.o.hx))) (cF (bh (i := 1) K0.nd rfl (Or.inl (lookup_relabel_local K0.hz)) (Or.inr (lookup_relabel_local K0.hz))) jU))
    refine clear (thn (hg _ s5 (sl :: sm :: fu caps σ) H5 (.ref ta) u (fun σ2 H2 => σ2 = some v1 :: some v2 :: fu caps σ ∧ H2 = H5) I5' r5 ⟨ta, [v1, v2], rfl, ht5, rfl, v1, [v2], rfl, v2, [], rfl, rfl, (show _ ∧ _ from ⟨rfl, rfl⟩)⟩) fun _ s6 ⟨σ6, H6, I6, e6, e7⟩ => ?_)
    subst e6 e7
    have again : ∀ {H7 : Hp} {s7 : Shared} {sl sm : Option V} {zs : List V} {m' : Nat}, Inv (bC X (x :: z :: caps.map (·.1)) scope cl H2.objs.size s H fp) ([] ++ nD fp s5.heap) (sl :: sm :: fu caps σ) H7 s7 → m' < n → W (i + 1) m' zs H7 →
      ∃ m, m < n ∧ ∃ i ys sl sm H', Inv (bC X (x :: z :: caps.map (·.1)) scope cl H2.objs.size s H fp) [] (sl :: sm :: fu caps σ) H' s7 ∧ tn i s7.heap ∧ (∀ b ∈ fp, H' b = none) ∧ W i m ys H' := fun {H7 s7 sl sm zs m'} I7 hm w7 => by
     refine ⟨m', hm, i + 1, zs, sl, sm, H7, I7.unpinned, T.keep _ _ _ st5 fun b hb o e => (I7.pin (b, o) (List.mem_append_right _ (List.mem_append_right _ (dG hb e)))).1, fun b hb => ?_, w7⟩
     obtain ⟨o, e, d⟩ := T.obj _ _ st5 b hb
     exact (I7.pin (b, o) (List.mem_append_right _ (List.mem_append_right _ (dG hb e)))).2.1
    refine clear (thn (he H2.objs.size s H fp _ s6 _ H6 _ I6 q6) fun xv s8 ⟨y, H8, I8, r8, hD8, hz8, m', hm, w8⟩ => ?_)
    refine clear (thn (bV _ s8 _ H8 (.ref D) [y] (.ref D) [xv] (fun _ H9 => H9 = upd H8 D (.lst (ys ++ [y]))) I8 rfl (.cons r8 .nil) ⟨D, ys, y, rfl, rfl, hD8, hz8, rfl⟩) fun _ s9 ⟨_, H9, I9, _, e9⟩ => ?_)
    subst e9
    exact again I9 hm w8
  ·rw [aC (by rw [eD]; exact Nat.ne_of_lt (hfs b hb))]
   exact (hf b hb).1
 exact codeAny_compStart_list loop (T.self _ 0 _ _ _ st1 loop)
def Dg (K : PySem.W.Frag) (wi : TI) (caps : List (Str × Nat)) (te : TE) : TE := fun σ H Q => wi σ H fun J H1 => su K J (fu caps σ) te (fun D H' => Q (.ref D) H') H1
theorem uO {i : Nat} {y x z : Str} {px pz tp py pos spos : Pos} {tx : Nat} {caps : List (Str × Nat)} {scope : Scope} {cl : List (Str × Addr)} {elt iter : Expr} {wi : TI} {te : TE} (hN : X.N.Nodup) (hiN : X.N[i]? = some y) (hy : X.env.scope.names.lookup y = some .local) (hc : X.calm = true)
  (K0 : uc X x z caps scope cl) (hi : PI X (.Tuple [.Name x px, .Name z pz] tx tp) iter wi)
  (he : ∀ C s1 H1 fp1, PE (bC X (x :: z :: caps.map (·.1)) scope cl C s1 H1 fp1) elt te)
  (hsw : swapsWith (.ListComp elt [⟨.Tuple [.Name x px, .Name z pz] tx tp, iter, [], 0⟩] scope pos) (some (.Name y py)) spos.line X.env = pure true := by rfl) (hs : ∀ x, foldedSetIterable iter X.env x = pure x := by intro _; rfl) :
  PS X (.Assign [.Name y py] (.ListComp elt [⟨.Tuple [.Name x px, .Name z pz] tx tp, iter, [], 0⟩] scope pos) spos) (Bo (Dg X.K wi caps te) (pG i)) := by
 intro pins s σ H D0 I h
 rw [exec_Assign_Name_used _ _ _ _ hsw]
 refine wpAny_bind (wpAny_standAt (wpAny_bind ?_))
 show wpAny _ X.A (do let _ ← comprehension (.ListComp elt [⟨.Tuple [.Name x px, .Name z pz] tx tp, iter, [], 0⟩] scope pos) scope X.env _ (newList []) false (eval iter X.env) (some (assign (.Name y py) X.env))) _ _ s
 refine wpAny_bind (wpAny_mono (wpAny_comprehension_free (use := some (assign (.Name y py) X.env)) (Q := fun _ s' => SP X pins D0 .next s') rfl hs K0.o.clos K0.o.kind K0.o.names
  (thn (hi pins s σ H _ I h) fun v s1 h1 => thn h1 fun itv s2 h2 => ?_)) (fun _ s' hq => wpAny_pure (wpAny_pure hq)) fun _ _ e => e)
 obtain ⟨it, fp, tn, J, H2, e, I2, T, st2, f2, rd⟩ := h2
 subst e
 refine wU (RR := fun acc C => compPost (model X.prog X.w) X.A X.xe (some (assign (.Name y py) X.env)) (fun _ s' => SP X pins D0 .next s') acc C) I2 hc K0 T st2 f2 he rd ?_
 intro D C s' H' m I' hn fC q
 show wpAny _ X.A (assign (.Name y py) X.env (.ref D)) _ _ _
 refine wpAny_assign_Name (nG (v := .ref D) I' hN hiN (.inl hy) rfl (fun s'' I'' ch => ⟨m, ?_, fun h'' hs'' => ?_⟩) (.inr hy))
 ·obtain ⟨a, sb, ha⟩ := ch
  refine hn.sameBut sb fun z => ?_
  rcases ha with ha | ha
  ·exact fC.2.1 (z.trans ha)
  ·exact fC.2.2.2.2.1 _ a ha z.symm
 ·exact ⟨_, H', I''.turned (h' := h'') (t' := s''.toks) (fun b o hb e => hs''.extBut b o hb e) fC.1 fC.2.1 fC.2.2.2.1 fC.2.2.2.2.1 fC.2.2.2.2.2, q⟩
end
section
variable {X : Cx} {x : Str} {scope : Scope}
end
end L2
namespace Tw
open PySem L2
theorem wZ {K : PySem.W.Frag} {a : Addr} {ns : List Int} {cap : L2.St} {te : TE} {Qf : Addr → Hp → Prop} {H : Hp} (R : Nat → Int → Prop) (hS : SqL K H a (ns.map V.int)) (hl : ns.length < sizeLine)
  (hte : ∀ (i : Nat) (b : Int) (H' : Hp) (Q : VK), ns[i]? = some b → aQ H H' → (∀ m H2, R i m → aQ H' H2 → Q (.int m) H2) → te (some (.int (i : Int)) :: some (.int b) :: cap) H' Q)
  (q : ∀ D H' (ls : List Int), H D = none → aQ H H' → H' D = some (.lst (ls.map V.int)) → ls.length = ns.length → (∀ i m, ls[i]? = some m → R i m) → Qf D H') : su K (Ite K a) cap te Qf H := by
 intro D hD
 refine ⟨fun i m ys H1 => m = ns.length - i ∧ i ≤ ns.length ∧ aQ H H1 ∧ H1 D = some (.lst ys) ∧ ∃ ls : List Int, ys = ls.map V.int ∧ ls.length = i ∧ ∀ i m, ls[i]? = some m → R i m, ⟨_, rfl, Nat.zero_le _, aA hD _, ak, [], rfl, rfl, fun i m e => by cases e⟩, ?_⟩
 rintro i m ys H1 ⟨rfl, hi, sm, hD1, ls, rfl, hll, hR⟩
 have hS1 := sm.seq hS
 by_cases hlt : i < ns.length
 ·have hb : ns[i]? = some ns[i] := List.getElem?_eq_getElem hlt
  have hg : (ns.map V.int)[i]? = some (.int ns[i]) := by
   rw [List.getElem?_map, hb]
   rfl
  refine .inr ⟨⟨_, _, hS1, hg⟩, fun v H2 y => ?_⟩
  obtain ⟨p, y, hp, rfl, rfl, e⟩ := y
  have e := e _ hS1
  rw [hg] at e
  cases e
  have s2 := aA hp (.tup [.int (i : Int), .int ns[i]])
  refine ⟨p, _, _, rfl, SqT.of ak, ?_⟩
  refine hte i ns[i] _ _ hb (sm.trans s2) fun m H2 hm s3 => ⟨s3 _ _ (s2 _ _ hD1), ?_, ns.length - (i + 1), by omega, rfl, hlt, ?_, ak, ls ++ [m], ?_, ?_, ?_⟩
  ·rw [List.length_map]
   omega
  ·exact bN (sm.trans (s2.trans s3)) hD _
  ·rw [List.map_append]
   rfl
  ·rw [List.length_append, hll]
   rfl
  ·intro j n e
   rcases Nat.lt_or_ge j ls.length with c | c
   ·rw [List.getElem?_append_left c] at e
    exact hR j n e
   ·rw [List.getElem?_append_right c] at e
    have : j - ls.length = 0 := by
     have := (List.getElem?_eq_some_iff.mp e).1
     simp at this
     omega
    rw [this] at e
    cases e
    have : j = i := by omega
    subst this
    exact hm
 ·have e : i = ns.length := by omega
  exact .inl ⟨⟨_, hS1, by rw [List.length_map, e]; exact Nat.le_refl _⟩, q D H1 ls hD sm hD1 (by omega) hR⟩
end Tw
set_option Elab.async false
set_option linter.all false
set_option maxRecDepth 100000
set_option maxHeartbeats 4000000
namespace L2
open PySem PySem.Spec PyProof.Rows PySem.W
structure qt where
 qual : Str
 params : Arguments
 body : Expr
 scope : Scope
 ps : List Str
 xs : List Str
def lamOf (st : Stmt) (qual : Str) (ps xs : List Str) : qt := match st with
 | .Return (some (.Lambda a b sc _)) _ => ⟨qual, a, b, sc, ps, xs⟩
 | _ => ⟨qual, defArgs st, .Name "" ⟨0, 0, 0, 0⟩, defScope st, ps, xs⟩
def iz : Stmt → Pos
 | .Return (some (.Lambda _ _ _ p)) _ => p
 | _ => ⟨0, 0, 0, 0⟩
structure jz (H : Hp) (f : Addr) (c : qt) (cs : List Addr) (fvs : List V) : Prop where
 ex : ∃ (cd : Addr) (pm ctv : Value) (oc : Obj) (vs : Array Value) (t : Tok), H f = some (aM f (kla_obj "<lambda>" c.qual c.params c.body c.scope (c.xs.zip cs) pm cd ctv)) ∧ H cd = some (aM cd oc) ∧ oc.data = .fields vs ∧ vs[1]? = some (.str c.qual t)
 cells : ∀ (i : Nat) (a : Addr), cs[i]? = some a → ∃ (co : Obj) (v : V) (u : Value), fvs[i]? = some v ∧ H a = some (aM a co) ∧ co.data = .cell (some u) ∧ RelV v u
 nd : cs.Nodup
 len : cs.length = c.xs.length
 lenV : fvs.length = c.xs.length
theorem jz.same {H H' : Hp} {f : Addr} {c : qt} {cs : List Addr} {fvs : List V} (h : jz H f c cs fvs) (s : ∀ b o, H b = some (aM b o) → H' b = some (aM b o)) : jz H' f c cs fvs := by
 obtain ⟨⟨cd, pm, ctv, oc, vs, t, h1, h2, h3, h4⟩, hc, nd, len, lenV⟩ := h
 refine ⟨⟨cd, pm, ctv, oc, vs, t, s _ _ h1, s _ _ h2, h3, h4⟩, fun i a e => ?_, nd, len, lenV⟩
 obtain ⟨co, v, u, e1, e2, e3⟩ := hc i a e
 exact ⟨co, v, u, e1, s _ _ e2, e3⟩
structure pW (N : List Str) (c : qt) : Prop where
 kind : c.scope.kind = .function
 co : c.scope.isCoroutine = false
 gen : c.scope.isGenerator = false
 nocell : ∀ x ∈ c.scope.names, x.2 ≠ .cell
 pre : N.take (c.ps.length + c.xs.length) = c.ps ++ c.xs
 nd : N.Nodup
 par : ∀ n ∈ c.ps, c.scope.names.lookup n = some .local
 fr : ∀ x ∈ c.scope.names, x.2 = .free → x.1 ∈ c.xs
 frn : ∀ n ∈ c.xs, c.scope.names.lookup n ≠ some .local
section
variable {P : Program} {w : World} {K : PySem.W.Frag} {mg : Str → Option Value} {base : Heap} {A : Around} {outer : List Env} {s : Shared} {H : Hp} {f : Addr} {c : qt} {cs : List Addr} {fvs vs : List V} {us : List Value} {N : List Str} {k : Nat} {Q : VK} {E : XK}
theorem Bq (S : pW N c) (hr : cJ (k + 1) A) (e0 : qR P w K mg base A outer s H) (ca : jz H f c cs fvs) (hb : ∀ (cl : List (Str × Addr)) (pm cd ctv : Value), bindArgs (kla_fn "<lambda>" c.qual c.params c.body c.scope cl pm cd ctv) ⟨us, []⟩ = pure (c.ps.zip us)) (r : Vals vs us) (hl : vs.length = c.ps.length)
  (body : ∀ cd : Addr, cJ k (A.deeper (envX c.qual c.scope s.heap.objs.size f (.ref cd) (c.xs.zip cs))) → ∃ t, PE (oE P w K mg base N c.qual c.scope f (.ref cd) (c.xs.zip cs) A outer s (hide H cs)) c.body t ∧ t (start N (vs ++ fvs)) (hide H cs) fun v H' => Q v (over H cs H')) :
  codeAny (model P w) A (.call (.ref f) ⟨us, []⟩) (CR CX0 outer P w H s Q E) s := by
 obtain ⟨⟨cd, pm, ctv, oc, ws, tk, h1, h2, h3, h4⟩, hc, nd, len, lenV⟩ := ca
 have hx : ∀ a ∈ cs, ∃ o, H a = some (aM a o) := fun a ha => by
  obtain ⟨i, hi⟩ := List.getElem?_of_mem ha
  obtain ⟨co, v, u, _, e, _⟩ := hc i a hi
  exact ⟨co, e⟩
 have lim : s.heap.NoLimit := e0.mod.nolimit.keeps fun b o e => (e0.bs b o e).1
 have ndP : c.ps.Nodup := by
  have : c.ps.Sublist N := by
   have h5 : (c.ps ++ c.xs).Sublist N := by rw [← S.pre]; exact List.take_sublist _ _
   exact (List.sublist_append_left _ _).trans h5
  exact S.nd.sublist this
 have ndX : c.xs.Nodup := by
  have : c.xs.Sublist N := by
   have h5 : (c.ps ++ c.xs).Sublist N := by rw [← S.pre]; exact List.take_sublist _ _
   exact (List.sublist_append_right _ _).trans h5
  exact S.nd.sublist this
 have hpl : c.ps.length + c.xs.length ≤ N.length := by
  have := congrArg List.length S.pre
  rw [List.length_take, List.length_append] at this
  omega
 refine kla_callFunE hr.depth (cG e0.hok h1) rfl S.co S.gen rfl ⟨cd, oc, ws, tk, rfl, cG e0.hok h2, h3, h4⟩ ?_
 rw [hb]
 refine wpAny_pure (wpAny_newFunctionEnv S.nocell (fun y hy => S.par _ (List.of_mem_zip hy).1) (fun h0 hns hsb => ⟨lim.fresh _ hsb, ?_⟩) S.kind)
 show codeAny _ _ (.expr c.body (envX c.qual c.scope s.heap.objs.size f (.ref cd) (c.xs.zip cs))) _ _
 have hk : ∀ b o, s.heap.get? b = some o → h0.get? b = some o := fun b o e => hsb.extBut b o (Nat.ne_of_lt (Heap.lt_size e)) (Heap.get?_push_of_some _ e)
 refine kla_codeExpr ?_
 obtain ⟨t, ht, hq⟩ := body cd (hr.deeper _)
 have hok0 := xU e0.hok hx
 have I : Inv (oE P w K mg base N c.qual c.scope f (.ref cd) (c.xs.zip cs) A outer s (hide H cs)) [] (start N (vs ++ fvs)) (hide H cs) { s with heap := h0, toks := s.toks + (c.ps.zip us).length } := by
  refine ⟨⟨e0.mod, S.kind, rfl, rfl, Nat.le_refl _, fun y z b h5 h6 => ?_, fun y hy => ?_, fun y b h5 _ => absurd h5 Bool.false_ne_true, fun _ => hr.hd, Around.frames_deeper e0.frames, .inr ⟨rfl, rfl⟩, fun b z => absurd (show b ∈ ([] : List Addr) from z) (by simp), fun b o e => ⟨(e0.bs b o e).1, ?_⟩, e0.bsz, fun b _ _ z => absurd (show b ∈ ([] : List Addr) from z) (by simp), fun b z => absurd (show b ∈ ([] : List Addr) from z) (by simp), e0.funs, fun b hb' => ?_⟩,
   rfl, e0.bare, Un.kept hk, ⟨_, hns, fun i y v h5 h6 h7 => ?_⟩, fun y b h5 => ?_, hok0.fresh (Nat.le_refl _), fun y b h5 => ?_, fun p hp => absurd (show p ∈ ([] : List (Addr × Obj)) from hp) (by simp), hok0.kept hk, ?_⟩
  ·obtain ⟨i, i1, i2⟩ := cD h5
   obtain ⟨j, j1, j2⟩ := cD h6
   have := (List.getElem?_inj (List.getElem?_eq_some_iff.mp i2).1 nd).mp (i2.trans j2.symm)
   subst this
   exact Option.some.inj (i1.symm.trans j1)
  ·have hy : c.scope.names.lookup y = some .cell ∨ c.scope.names.lookup y = some .free := hy
   rcases hy with hy | hy
   ·exact absurd rfl (S.nocell _ (PySem.mem_of_lookup hy))
   ·exact sS len (S.fr _ (PySem.mem_of_lookup hy) rfl)
  ·have n := (e0.bs b o e).2
   show hide H cs b = none
   rw [bK]
   ·exact n
   ·intro z
    obtain ⟨o', e'⟩ := hx b z
    rw [n] at e'
    cases e'
  ·have n := e0.frf b hb'
   show hide H cs b = none
   rw [bK]
   ·exact n
   ·intro z
    obtain ⟨o', e'⟩ := hx b z
    rw [n] at e'
    cases e'
  ·have hi : i < (vs ++ fvs).length := by
    unfold start at h6
    by_cases hi : i < (vs ++ fvs).length
    ·exact hi
    ·rw [List.getElem?_append_right (by simpa using hi)] at h6
     rw [List.getElem?_replicate] at h6
     split at h6 <;> cases h6
   have ha : (vs ++ fvs)[i]? = some v := by
    unfold start at h6
    rw [List.getElem?_append_left (by simpa using hi), List.getElem?_map] at h6
    cases e : (vs ++ fvs)[i]? with
    | none => rw [e] at h6; cases h6
    | some a => rw [e] at h6; cases h6; rfl
   rw [List.length_append] at hi
   have hp : (c.ps ++ c.xs)[i]? = some y := by
    rw [← S.pre, List.getElem?_take_of_lt (by omega)]
    exact h5
   by_cases hi2 : i < vs.length
   ·rw [List.getElem?_append_left hi2] at ha
    rw [List.getElem?_append_left (by omega)] at hp
    obtain ⟨u, hu, rv⟩ := r.get ha
    exact ⟨u, rv, .inl ⟨S.par y (List.mem_of_getElem? hp), xQ ndP hp hu⟩⟩
   ·rw [List.getElem?_append_right (by omega)] at ha
    rw [List.getElem?_append_right (by omega), ← hl] at hp
    have hj : i - vs.length < cs.length := by
     have := (List.getElem?_eq_some_iff.mp hp).1
     omega
    obtain ⟨b, hb5⟩ : ∃ b, cs[i - vs.length]? = some b := ⟨_, List.getElem?_eq_getElem hj⟩
    obtain ⟨co, v', u, q1, q2, q3, q4⟩ := hc _ b hb5
    rw [ha] at q1
    cases q1
    have hfree : c.scope.names.lookup y = some .free := by
     rcases h7 with q | q | q
     ·exact absurd q (S.frn y (List.mem_of_getElem? hp))
     ·exact absurd rfl (S.nocell _ (PySem.mem_of_lookup q))
     ·exact q
    exact ⟨u, q4, .inr ⟨.inr hfree, b, wY ndX hp hb5, co, hk _ _ (cG e0.hok q2), q3⟩⟩
  ·obtain ⟨i, i1, i2⟩ := cD h5
   obtain ⟨co, v', u, q1, q2, q3, q4⟩ := hc _ b i2
   exact ⟨_, co, hk _ _ (cG e0.hok q2), q3⟩
  ·obtain ⟨i, i1, i2⟩ := cD h5
   exact lB (List.mem_of_getElem? i2)
  ·unfold start
   show _ = N.length
   rw [List.length_append, List.length_map, List.length_replicate, List.length_append]
   omega
 have fin : ∀ {s' : Shared} {σ' : St} {H' : Hp} {v : V} {u : Value}, Inv (oE P w K mg base N c.qual c.scope f (.ref cd) (c.xs.zip cs) A outer s (hide H cs)) [] σ' H' s' → RelV v u → Q v (over H cs H') → CE outer P w H s Q u s' := fun {s' σ' H' v u} J rv q => by
  obtain ⟨k1, k2⟩ := xx e0.hok J.hok hx e0.frf J.base
  exact ⟨v, over H cs H', J.os, J.bare, k2, k1, rv, q⟩
 refine wpAny_mono (ht [] _ (start N (vs ++ fvs)) (hide H cs) _ I hq) (fun u s' hs => ?_) fun e s' hs => False.elim hs
 obtain ⟨v, H', J, rv, q⟩ := hs
 exact fin J rv q
end
section
variable {X : Cx} {pins : List (Addr × Obj)} {σ : St} {H : Hp} {s : Shared} {c P : Addr} {name qual : Str} {params : Arguments} {body : Expr} {scope : Scope} {clos : List (Str × Addr)} {pos : Pos} {n : Nat}
theorem z9 {M : Model} {A : Around} {E : Value → Shared → Prop} {Q : Value → Shared → Prop} (I : Inv X pins σ H s) (bm : BMain X.mg X.base) (hcode : X.env.code = .ref c) (C : CodeHd X.base c P) (hT : TabAt H P pos qual) (hcl : closureFor scope X.env = pure clos)
  (h : ∀ (fi cd : Addr) (pm ctv : Value) (oc : Obj) (vs : Array Value) (t : Tok) (H1 : Hp) (s1 : Shared), Inv X pins σ H1 s1 → H fi = none → (∀ b o, H b = some o → b ≠ P → H1 b = some o) → TabAt H1 P pos qual →
   H1 fi = some (aM fi (kla_obj name qual params body scope clos pm cd ctv)) → H1 cd = some (aM cd oc) → oc.data = .fields vs → vs[1]? = some (.str qual t) → Q (.ref fi) s1) :
  wpAny M A (makeFunction name qual params (.expr body) scope X.env [] [] [] pos n) Q E s := by
 obtain ⟨ps, hP, htr, hcase⟩ := hT
 have hPs : s.heap.get? P = some (tabObj ps) := I.hok P _ hP
 have G := I.mod.glob.keeps I.bk
 obtain ⟨bm, ob, b1, b2, b3, b4, b5, b6⟩ := bm
 have b3' := I.bk _ _ b3
 have hgP : mainGlobals ≠ P := fun q => by
  obtain ⟨o, es, ep, e, hd, _⟩ := G
  rw [q, hPs] at e; cases e; cases hd
 have hbP : bm ≠ P := fun q => by
  rw [q, hPs] at b3'; cases b3'; cases b4
 have hbG : bm ≠ mainGlobals := fun q => by
  obtain ⟨o, es, ep, e, hd, _⟩ := G
  rw [q, e] at b3'; cases b3'; rw [hd] at b6; cases b6
 have hbu : s.heap.BuiltinsAt X.mg P := ⟨bm, ob, b1, b2, hbG, hbP, b3', b4, b5, b6⟩
 rcases hcase with hnf | ⟨cd, oc, vs, t, hf, hcd, hd, hv⟩
 ·refine kla_makeFunction (mg := X.mg) hcl I.ok.glob G hcode (C.keeps I.bk) hPs htr hnf hgP hbu fun c' ctv h' tk hx hge hlt hrec htb => ?_
  obtain ⟨c2, oc, vs, t, e2, hoc, hd, hv⟩ := hrec
  cases e2
  have nc : H c' = none := I.hok.fresh hge
  have nf : H h'.objs.size = none := I.hok.fresh (Nat.le_trans hge (Nat.le_of_lt hlt))
  have nPc : P ≠ c' := aB hP nc
  have nPf : P ≠ h'.objs.size := aB hP nf
  have ncf : c' ≠ h'.objs.size := Nat.ne_of_lt hlt
  have k1 : ∀ b, b ≠ P → b ≠ c' → b ≠ h'.objs.size → upd (upd (upd H P (.tbl (ps ++ #[rawInt pos.line, rawInt pos.col, .ref c']))) c' (aM c' oc)) h'.objs.size (aM h'.objs.size (kla_obj name qual params body scope clos ((X.mg "__name__").getD .none) c' ctv)) b = H b := fun b e1 e2 e3 => by
   rw [aC e3, aC e2, aC e1]
  have kS : ∀ b o, H b = some o → b ≠ P → upd (upd (upd H P (.tbl (ps ++ #[rawInt pos.line, rawInt pos.col, .ref c']))) c' (aM c' oc)) h'.objs.size (aM h'.objs.size (kla_obj name qual params body scope clos ((X.mg "__name__").getD .none) c' ctv)) b = some o := fun b o e n => by
   rw [k1 b n (aB e nc) (aB e nf)]
   exact e
  have kP : upd (upd (upd H P (.tbl (ps ++ #[rawInt pos.line, rawInt pos.col, .ref c']))) c' (aM c' oc)) h'.objs.size (aM h'.objs.size (kla_obj name qual params body scope clos ((X.mg "__name__").getD .none) c' ctv)) P = some (.tbl (ps ++ #[rawInt pos.line, rawInt pos.col, .ref c'])) := by
   rw [aC nPf, aC nPc, ak]
  have kc : upd (upd (upd H P (.tbl (ps ++ #[rawInt pos.line, rawInt pos.col, .ref c']))) c' (aM c' oc)) h'.objs.size (aM h'.objs.size (kla_obj name qual params body scope clos ((X.mg "__name__").getD .none) c' ctv)) c' = some (aM c' oc) := by
   rw [aC ncf, ak]
  have kf : upd (upd (upd H P (.tbl (ps ++ #[rawInt pos.line, rawInt pos.col, .ref c']))) c' (aM c' oc)) h'.objs.size (aM h'.objs.size (kla_obj name qual params body scope clos ((X.mg "__name__").getD .none) c' ctv)) h'.objs.size = some (aM h'.objs.size (kla_obj name qual params body scope clos ((X.mg "__name__").getD .none) c' ctv)) := ak
  generalize upd (upd (upd H P (.tbl (ps ++ #[rawInt pos.line, rawInt pos.col, .ref c']))) c' (aM c' oc)) h'.objs.size (aM h'.objs.size (kla_obj name qual params body scope clos ((X.mg "__name__").getD .none) c' ctv)) = H1 at *
  have old : ∀ b o, s.heap.get? b = some o → b ≠ P → (h'.push (kla_obj name qual params body scope clos ((X.mg "__name__").getD .none) c' ctv)).get? b = some o := fun b o e n => Heap.get?_push_of_some _ (hx b o n e)
  have tabP : (h'.push (kla_obj name qual params body scope clos ((X.mg "__name__").getD .none) c' ctv)).get? P = some (tabObj (ps ++ #[rawInt pos.line, rawInt pos.col, .ref c'])) := Heap.get?_push_of_some _ htb
  have hl : (ps ++ #[rawInt pos.line, rawInt pos.col, .ref c']).toList = ps.toList ++ [rawInt pos.line, rawInt pos.col, .ref c'] := by simp
  refine h h'.objs.size c' _ ctv oc vs t H1 _ (I.call' (ch := []) rfl ⟨fun b o e n hb hx' => ?_, fun b o e n hb hx' => ?_, fun b o e n hx' => ?_, fun b o e hx' => ?_, fun b xs e => ?_, fun b o u e => ?_, fun b qs e => ?_⟩ (fun b u e => ?_) I.bare fun b z => absurd z (by simp)) nf kS ⟨_, kP, by rw [hl]; exact TriplesOk_snoc _ _ _ _ htr, .inr ⟨c', oc, vs, t, by rw [hl]; exact codeAmong_snoc _ htr hnf, kc, hd, hv⟩⟩ kf kc hd hv
  ·exact old b o e fun z => by rw [z, hP] at n; cases n
  ·exact ⟨o.slots, old b o e fun z => by rw [z, hP] at n; cases n⟩
  ·rw [k1 b (fun z => by rw [z, hP] at n; cases n) (Nat.ne_of_lt (Nat.lt_of_lt_of_le (Heap.lt_size e) hge)) (Nat.ne_of_lt (Nat.lt_of_lt_of_le (Heap.lt_size e) (Nat.le_trans hge (Nat.le_of_lt hlt))))]
   exact n
  ·by_cases z : b = P
   ·exact ⟨_, by rw [z]; exact tabP⟩
   ·exact ⟨o, old b o e z⟩
  ·exact kS b _ e fun z => by rw [z, hP] at e; cases e
  ·exact kS b _ e fun z => by rw [z, hP] at e; cases e
  ·by_cases z : b = P
   ·rw [z, hP] at e
    cases e
    exact ⟨_, by rw [z]; exact kP⟩
   ·exact ⟨#[], by rw [kS b _ e z]; simp⟩
  ·by_cases z1 : b = h'.objs.size
   ·rw [z1, kf] at e
    cases e
    rw [z1]
    exact dh (Heap.get?_push_size _ rfl)
   by_cases z2 : b = c'
   ·rw [z2, kc] at e
    cases e
    rw [z2]
    exact dh (Heap.get?_push_of_some _ hoc)
   by_cases z3 : b = P
   ·rw [z3, kP] at e
    cases e
    rw [z3]
    exact tabP
   rw [k1 b z3 z2 z1] at e
   refine (I.hok b u e).stay (fun d o hd' q => old d o q ?_) (fun d q => kS d _ q ?_) fun d xs q => kS d _ q ?_
   ·rcases hd' with rfl | hd'
    ·exact z3
    ·exact fun z => by rw [z, hP] at hd'; cases hd'
   ·exact fun z => by rw [z, hP] at q; cases q
   ·exact fun z => by rw [z, hP] at q; cases q
 ·refine kla_makeFunctionHit (mg := X.mg) hcl I.ok.glob G hcode (C.keeps I.bk) hPs htr hf hbu fun ctv h' tk hk hsz => ?_
  have nf : H h'.objs.size = none := I.hok.fresh hsz
  have kS : ∀ b o, H b = some o → upd H h'.objs.size (aM h'.objs.size (kla_obj name qual params body scope clos ((X.mg "__name__").getD .none) cd ctv)) b = some o := fun b o e => by
   rw [aC (aB e nf)]
   exact e
  have old : ∀ b o, s.heap.get? b = some o → (h'.push (kla_obj name qual params body scope clos ((X.mg "__name__").getD .none) cd ctv)).get? b = some o := fun b o e => Heap.get?_push_of_some _ (hk b o e)
  refine h h'.objs.size cd _ ctv oc vs t _ _ (I.call' (ch := []) rfl (Un.laid old hsz nf) (fun b u e => ?_) I.bare fun b z => absurd z (by simp)) nf (fun b o e _ => kS b o e) ⟨ps, kS _ _ hP, htr, .inr ⟨cd, oc, vs, t, hf, kS _ _ hcd, hd, hv⟩⟩ ak (kS _ _ hcd) hd hv
  by_cases z1 : b = h'.objs.size
  ·rw [z1, ak] at e
   cases e
   rw [z1]
   exact dh (Heap.get?_push_size _ rfl)
  rw [aC z1] at e
  exact (I.hok b u e).stay (fun d o _ q => old d o q) (fun d q => kS d _ q) fun d xs q => kS d _ q
end
section
variable {CX : CXT} {P : Program} {w : World} {K : PySem.W.Frag} {mg : Str → Option Value} {base : Heap} {N : List Str} {qual : Str} {scope : Scope} {f c Pt : Addr} {A : Around} {outer : List Env} {s0 s : Shared} {H0 H : Hp} {E : XK} {σ : St} {Q : VK}
theorem Bk {T : qt} {cs : List Addr} {fvs : List V} {pos p2 : Pos} (I : Inv (gh CX P w K mg base N qual scope f (.ref c) A outer s0 H0 E) [] σ H s) (bm : BMain mg base) (C : CodeHd base c Pt) (hT : TabAt H Pt pos T.qual)
  (hq : (envOfC qual scope s0.heap.objs.size f (.ref c)).qual ++ "<lambda>" = T.qual)
  (hcl : closureFor T.scope (envOfC qual scope s0.heap.objs.size f (.ref c)) = pure (T.xs.zip cs)) (hd0 : defaultsOf T.params (envOfC qual scope s0.heap.objs.size f (.ref c)) = ([], []))
  (hndC : cs.Nodup) (hlen : cs.length = T.xs.length) (hlenV : fvs.length = T.xs.length)
  (hfv : ∀ (j : Nat) (a : Addr), cs[j]? = some a → ∃ (x : Str) (m : Nat) (v : V), (envOfC qual scope s0.heap.objs.size f (.ref c)).cells.lookup x = some a ∧ scope.names.lookup x = some .cell ∧ N[m]? = some x ∧ σ[m]? = some (some v) ∧ fvs[j]? = some v)
  (hQ : ∀ (fi : Addr) (H2 : Hp), H fi = none → (∀ a ∈ cs, H a = none) → (∀ b o, H b = some o → b ≠ Pt → H2 b = some o) → TabAt H2 Pt pos T.qual → jz H2 fi T cs fvs → Q (.ref fi) H2) :
  wpAny (model P w) (A.deeper (envOfC qual scope s0.heap.objs.size f (.ref c))) (execs [.Return (some (.Lambda T.params T.body T.scope pos)) p2] (envOfC qual scope s0.heap.objs.size f (.ref c)))
   (fun fl s' => ∃ u, fl = .ret u ∧ CE outer P w H0 s0 Q u s') (gh CX P w K mg base N qual scope f (.ref c) A outer s0 H0 E).xe s := by
 refine wpAny_execs_cons (wpAny_Return_some (kla_eval hd0 ?_))
 rw [hq]
 refine z9 (X := gh CX P w K mg base N qual scope f (.ref c) A outer s0 H0 E) (n := pos.line) I bm rfl C hT hcl fun fi cd pm ctv oc vs t H1 s1 I1 nfi keep hT1 hf1 hc1 hd hv => ?_
 refine ⟨.ref fi, rfl, .ref fi, fun b => if b ∈ cs then (s1.heap.get? b).map (aM b) else H1 b, I1.os, I1.bare, ?_, ?_, rfl, ?_⟩
 all_goals
  have cellsOf : ∀ a ∈ cs, ∃ x, (envOfC qual scope s0.heap.objs.size f (.ref c)).cells.lookup x = some a := fun a ha' => by
   obtain ⟨j, hj⟩ := List.getElem?_of_mem ha'
   obtain ⟨x, m, v, h1, _⟩ := hfv j a hj
   exact ⟨x, h1⟩
  have fresh : ∀ a ∈ cs, s0.heap.objs.size ≤ a := fun a ha' => by
   obtain ⟨x, hx⟩ := cellsOf a ha'
   exact I1.ok.cab x a rfl hx
  have gone : ∀ a ∈ cs, H1 a = none := fun a ha' => by
   obtain ⟨x, hx⟩ := cellsOf a ha'
   exact I1.freeC x a hx
  have out : ∀ b o, H1 b = some o → b ∉ cs := fun b o e z => by
   rw [gone b z] at e
   cases e
 ·have U : Un (frs outer) [] H0 H1 s0.heap s1.heap := I1.base
  refine ⟨U.keep, U.slot, fun b o e n hx' => ?_, U.there, fun b xs e => ?_, fun b o v e => ?_, fun b ps e => ?_⟩
  ·show (if b ∈ cs then _ else H1 b) = none
   rw [if_neg (fun z => absurd (Nat.lt_of_lt_of_le (Heap.lt_size e) (fresh b z)) (Nat.lt_irrefl _))]
   exact U.free b o e n hx'
  ·have e1 := U.tups b xs e
   show (if b ∈ cs then _ else H1 b) = _
   rw [if_neg (out b _ e1)]
   exact e1
  ·have e1 := U.frzs b o v e
   show (if b ∈ cs then _ else H1 b) = _
   rw [if_neg (out b _ e1)]
   exact e1
  ·obtain ⟨more, e1⟩ := U.tbls b ps e
   refine ⟨more, ?_⟩
   show (if b ∈ cs then _ else H1 b) = _
   rw [if_neg (out b _ e1)]
   exact e1
 ·intro b u' e
  have e : (if b ∈ cs then (s1.heap.get? b).map (aM b) else H1 b) = some u' := e
  by_cases hb : b ∈ cs
  ·rw [if_pos hb] at e
   cases q : s1.heap.get? b with
   | none => rw [q] at e; cases e
   | some o =>
    rw [q] at e
    cases e
    exact dh q
  ·rw [if_neg hb] at e
   refine (I1.hok b u' e).stay (fun _ _ _ q => q) (fun d q => ?_) fun d xs q => ?_
   ·show (if d ∈ cs then _ else H1 d) = _
    rw [if_neg (out d _ q)]
    exact q
   ·show (if d ∈ cs then _ else H1 d) = _
    rw [if_neg (out d _ q)]
    exact q
 ·have kp : ∀ b o, H1 b = some o → (fun b => if b ∈ cs then (s1.heap.get? b).map (aM b) else H1 b) b = some o := fun b o e => by
   show (if b ∈ cs then _ else H1 b) = _
   rw [if_neg (out b _ e)]
   exact e
  refine hQ fi _ nfi (fun a ha' => ?_) (fun b o e n => kp b o (keep b o e n)) ?_ ⟨⟨cd, pm, ctv, oc, vs, t, kp _ _ hf1, kp _ _ hc1, hd, hv⟩, fun j a hj => ?_, hndC, hlen, hlenV⟩
  ·obtain ⟨x, hx⟩ := cellsOf a ha'
   exact I.freeC x a hx
  ·obtain ⟨ps, e1, e2, e3⟩ := hT1
   refine ⟨ps, kp _ _ e1, e2, ?_⟩
   rcases e3 with e3 | ⟨cd', oc', vs', t', e4, e5, e6⟩
   ·exact .inl e3
   ·exact .inr ⟨cd', oc', vs', t', e4, kp _ _ e5, e6⟩
  ·obtain ⟨x, m, v, h1, h2, h3, h4, h5⟩ := hfv j a hj
   obtain ⟨mm, _, hl⟩ := I1.loc
   obtain ⟨u', r', l⟩ := hl m x v h3 h4 (.inr (.inl h2))
   have l' : ∃ c', (envOfC qual scope s0.heap.objs.size f (.ref c)).cells.lookup x = some c' ∧ s1.heap.IsCell c' (some u') := by
    rcases l with ⟨l1, _⟩ | ⟨_, l2⟩
    ·have l1 : scope.names.lookup x = some .local := l1
     rw [h2] at l1
     cases l1
    ·exact l2
   obtain ⟨c', l1, co, l2, l3⟩ := l'
   rw [h1] at l1
   cases l1
   refine ⟨co, v, u', h5, ?_, l3, r'⟩
   show (if a ∈ cs then (s1.heap.get? a).map (aM a) else H1 a) = _
   rw [if_pos (List.mem_of_getElem? hj), l2]
   rfl
end
structure Bd (N : List Str) (qual : Str) (scope : Scope) (T : qt) (slots : List Nat) (csF : Addr → List Addr) : Prop where
 qn : ∀ (L f : Addr) (c : Value), (envOfC qual scope L f c).qual ++ "<lambda>" = T.qual
 cl : ∀ (L f : Addr) (c : Value), closureFor T.scope (envOfC qual scope L f c) = pure (T.xs.zip (csF L))
 d0 : ∀ (L f : Addr) (c : Value), defaultsOf T.params (envOfC qual scope L f c) = ([], [])
 ndC : ∀ L : Addr, (csF L).Nodup
 len : ∀ L : Addr, (csF L).length = T.xs.length
 fv : ∀ (L f : Addr) (c : Value) (j : Nat) (a : Addr), (csF L)[j]? = some a → ∃ (x : Str) (m : Nat), (envOfC qual scope L f c).cells.lookup x = some a ∧ scope.names.lookup x = some .cell ∧ N[m]? = some x ∧ slots[j]? = some m
def CP (H : Hp) (Pt : Addr) (pos : Pos) (T : qt) (slots : List Nat) (σ : St) (Q : VK) : Prop :=
 TabAt H Pt pos T.qual ∧ ∃ fvs : List V, (∀ j m : Nat, slots[j]? = some m → ∃ v, σ[m]? = some (some v) ∧ fvs[j]? = some v) ∧ fvs.length = T.xs.length ∧
  ∀ (fi : Addr) (cs : List Addr) (H2 : Hp), H fi = none → (∀ a ∈ cs, H a = none) → (∀ b o, H b = some o → b ≠ Pt → H2 b = some o) → TabAt H2 Pt pos T.qual → jz H2 fi T cs fvs → Q (.ref fi) H2
section
variable {P : Program} {w : World} {K : PySem.W.Frag} {mg : Str → Option Value} {base : Heap} {x qual : Str} {st : Stmt} {f c Pt : Addr} {fd : FuncData} {N ps : List Str} {k i : Nat} {sp : Sp} {T : qt} {slots : List Nat} {csF : Addr → List Addr} {pos p1 p2 : Pos}
theorem yE {A : Around} {outer : List Env} {s s1 : Shared} {H H1 : Hp} {Q : VK} {E : XK} {σ : St} (M : Bd N qual (defScope st) T slots csF) (bm : BMain mg base) (C : CodeHd base c Pt) (I : Inv (gh CX0 P w K mg base N qual (defScope st) f (.ref c) A outer s H E) [] σ H1 s1) (h : CP H1 Pt pos T slots σ Q) :
  wpAny (model P w) (A.deeper (envOfC qual (defScope st) s.heap.objs.size f (.ref c))) (execs [.Return (some (.Lambda T.params T.body T.scope pos)) p2] (envOfC qual (defScope st) s.heap.objs.size f (.ref c)))
   (fun fl s' => ∃ u, fl = .ret u ∧ CE outer P w H s Q u s') (gh CX0 P w K mg base N qual (defScope st) f (.ref c) A outer s H E).xe s1 := by
 obtain ⟨hT, fvs, h1, h2, h3⟩ := h
 refine Bk (cs := csF s.heap.objs.size) (fvs := fvs) I bm C hT (M.qn _ _ _) (M.cl _ _ _) (M.d0 _ _ _) (M.ndC _) (M.len _) h2 (fun j a e => ?_) (fun fi H2 n1 n2 n3 n4 n5 => h3 fi _ H2 n1 n2 n3 n4 n5)
 obtain ⟨y, m, e1, e2, e3, e4⟩ := M.fv s.heap.objs.size f (.ref c) j a e
 obtain ⟨v, e6, e7⟩ := h1 j m e4
 exact ⟨y, m, v, e1, e2, e3, e6, e7⟩
theorem Fun.makerL1 {st0 : Stmt} (F : Fun K x qual st f fd) (S : aF N ps (defScope st)) (M : Bd N qual (defScope st) T slots csF) (bm : BMain mg base) (hcode : fd.code = .ref c) (C : CodeHd base c Pt) (len : ∀ vs H Q E, sp vs H Q E → vs.length = ps.length)
  (hb : defBody st = [st0, .Return (some (.Lambda T.params T.body T.scope pos)) p2])
  (h : ∀ (cdv : Value) (A : Around) (outer : List Env) (s : Shared) (H : Hp) (vs : List V) (Q : VK) (E : XK), cJ k (A.deeper (envOfC qual (defScope st) s.heap.objs.size f cdv)) → sp vs H Q E →
   ∃ t, PS (gh CX0 P w K mg base N qual (defScope st) f cdv A outer s H E).nox st0 t ∧ t { nx := fun σ H' => CP H' Pt pos T slots σ Q, rt := fun _ _ => False } (start N vs) H) : aW P w K mg base CX0 (k + 1) f fd ps sp := by
 obtain ⟨oc, od, kV, doc, pm, an, cdv, ct, osl, rfl, lk, hcd⟩ := F.ex
 obtain rfl : cdv = .ref c := hcode
 refine Ar lk hcd S len fun A outer s H vs Q E s1 hr hsp I => ?_
 rw [hb]
 obtain ⟨t, h1, h2⟩ := h _ A outer s H vs Q E hr hsp
 refine wpAny_execs_cons (wpAny_mono (h1 [] s1 (start N vs) H _ (I.wish _) h2) (fun fl s2 q => ?_) fun _ _ z => False.elim z)
 cases fl with
 | next =>
  obtain ⟨σ, H1, I1, q⟩ := q
  exact yE M bm C I1.unwish q
 | ret u => obtain ⟨_, _, _, _, _, z⟩ := q; exact False.elim z
 | brk => obtain ⟨_, _, _, z⟩ := q; exact False.elim z
 | cont => obtain ⟨_, _, _, z⟩ := q; exact False.elim z
theorem DW {sp : Addr → Sp} (S : pW N T) (hb : ∀ (cl : List (Str × Addr)) (pm cd ctv : Value) (us : List Value), us.length = T.ps.length → bindArgs (kla_fn "<lambda>" T.qual T.params T.body T.scope cl pm cd ctv) ⟨us, []⟩ = pure (T.ps.zip us))
  (h : ∀ (f : Addr) (vs : List V) (H : Hp) (Q : VK), sp f vs H Q E0 → vs.length = T.ps.length ∧ ∃ cs fvs, jz H f T cs fvs ∧
   ∀ (cd : Addr) (A : Around) (outer : List Env) (s : Shared), cJ k (A.deeper (envX T.qual T.scope s.heap.objs.size f (.ref cd) (T.xs.zip cs))) → ∃ t, PE (oE P w K mg base N T.qual T.scope f (.ref cd) (T.xs.zip cs) A outer s (hide H cs)) T.body t ∧ t (start N (vs ++ fvs)) (hide H cs) fun v H' => Q v (over H cs H')) :
  nU P w K mg base (k + 1) sp := by
 intro f A outer s H us vs Q hr e0 r hsp
 obtain ⟨hl, cs, fvs, ca, hbody⟩ := h f vs H Q hsp
 exact Bq S hr e0 ca (fun cl pm cd ctv => hb cl pm cd ctv us (by rw [← r.length]; exact hl)) r hl fun cd hr' => hbody cd A outer s hr'
end
end L2
set_option Elab.async false
set_option linter.all false
set_option maxRecDepth 100000
set_option maxHeartbeats 4000000
namespace L2
open PySem PySem.Spec PyProof.Rows
section
variable {X : Cx} {pins : List (Addr × Obj)} {σ : St} {H : Hp} {s : Shared} {h' : Heap}
theorem Inv.turnN {ch : List Addr} {p : Addr} {o : HO} {t' : Nat} (I : Inv X pins σ H s) (hf : ∀ b ∈ ch, iQ X pins H b)
  (k : ∀ b u, b ∉ ch → s.heap.get? b = some u → h'.get? b = some u) (hp : s.heap.objs.size ≤ p)
  (new : cj X.prog X.w (upd H p o) h' p o) : Inv X pins σ (upd H p o) { s with heap := h', toks := t' } := by
 have hn := I.hok.fresh hp
 have ne : ∀ b u, H b = some u → b ∉ ch := fun b u q z => by rw [(hf b z).1] at q; cases q
 have up : ∀ b u, H b = some u → upd H p o b = some u := fun b u q => by rw [aC (aB q hn)]; exact q
 refine I.step (g' := s.gens) (d' := s.drawn) (ch := ch) (fun b hb => ?_) (fun b u _ _ hx q _ => k b u hx q) (fun b u _ _ hx q _ => ⟨u.slots, k b u hx q⟩)
  (fun b u _ q n => by rw [aC (Nat.ne_of_lt (Nat.lt_of_lt_of_le (Heap.lt_size q) hp))]; exact n) (fun b u hx q => ⟨u, k b u hx q⟩)
  (fun b xs q => up _ _ q) (fun b ob u q => up _ _ q) (fun b ps q => ⟨#[], by rw [up _ _ q]; simp⟩) (fun m hm => ?_) (fun b u q => ?_) I.bare
 ·have fe := hf b hb
  exact ⟨fe.2.2.2.1, fe.2.1, fe.2.2.2.2.1, fe.2.2.2.2.2⟩
 ·obtain ⟨ob, es, ep, ho, r⟩ := hm
  exact ⟨ob, es, ep, k _ ob (fun z => (hf _ z).2.1 rfl) ho, r⟩
 ·by_cases hb : b = p
  ·subst hb
   rw [ak] at q
   cases q
   exact new
  ·rw [aC hb] at q
   refine (I.hok b u q).stay (fun c v hc r => k c v ?_ r) (fun c r => up _ _ r) fun c xs r => up _ _ r
   rcases hc with rfl | z
   ·exact ne _ _ q
   ·exact ne _ _ z
theorem Inv.turnedN {ch : List Addr} {t' : Nat} (I : Inv X pins σ H s) (hf : ∀ b ∈ ch, iQ X pins H b)
  (k : ∀ b u, b ∉ ch → s.heap.get? b = some u → h'.get? b = some u) : Inv X pins σ H { s with heap := h', toks := t' } := by
 have ne : ∀ b u, H b = some u → b ∉ ch := fun b u q z => by rw [(hf b z).1] at q; cases q
 refine I.step (g' := s.gens) (d' := s.drawn) (ch := ch) (fun b hb => ?_) (fun b u _ _ hx q _ => k b u hx q) (fun b u _ _ hx q _ => ⟨u.slots, k b u hx q⟩)
  (fun _ _ _ _ n => n) (fun b u hx q => ⟨u, k b u hx q⟩)
  (fun _ _ q => q) (fun _ _ _ q => q) (fun b ps q => ⟨#[], by rw [q]; simp⟩) (fun m hm => ?_) (fun b u q => ?_) I.bare
 ·have fe := hf b hb
  exact ⟨fe.2.2.2.1, fe.2.1, fe.2.2.2.2.1, fe.2.2.2.2.2⟩
 ·obtain ⟨ob, es, ep, ho, r⟩ := hm
  exact ⟨ob, es, ep, k _ ob (fun z => (hf _ z).2.1 rfl) ho, r⟩
 ·refine (I.hok b u q).stay (fun c v hc r => k c v ?_ r) (fun c r => r) fun c xs r => r
  rcases hc with rfl | z
  ·exact ne _ _ q
  ·exact ne _ _ z
end
def Itz (K : PySem.W.Frag) (a b : Addr) : It :=
  ⟨fun i H => ∃ xs ys x y, SqL K H a xs ∧ SqL K H b ys ∧ xs[i]? = some x ∧ ys[i]? = some y,
   fun i H v H' => ∃ p x y, H p = none ∧ v = .ref p ∧ H' = upd H p (.tup [x, y]) ∧ (∀ xs, SqL K H a xs → xs[i]? = some x) ∧ ∀ ys, SqL K H b ys → ys[i]? = some y,
   fun i H => ∃ xs ys, SqL K H a xs ∧ SqL K H b ys ∧ (xs.length ≤ i ∨ ys.length ≤ i)⟩
structure wQ (z TI TO i1 i2 : Addr) : Prop where
 TIz : TI ≠ z
 TOz : TO ≠ z
 i1z : i1 ≠ z
 i2z : i2 ≠ z
 TITO : TI ≠ TO
 TIi1 : TI ≠ i1
 TIi2 : TI ≠ i2
 TOi1 : TO ≠ i1
 TOi2 : TO ≠ i2
 i12 : i1 ≠ i2
def CT (a b z TI TO i1 i2 : Addr) (i : Nat) (h : Heap) : Prop := IsZip h z TI TO .none ∧ IsPair h TI (.ref i1) (.ref i2) ∧ (∃ x y, IsPair h TO x y) ∧ h.IsListIter i1 a i ∧ h.IsListIter i2 b i
theorem jx {h : Heap} {a b : Addr} {o u : Obj} (ho : h.get? a = some o) (hu : h.get? b = some u) (hc : o.cls ≠ u.cls) : a ≠ b := fun z => by
 subst z
 rw [ho] at hu
 cases hu
 exact hc rfl
theorem uV {h : Heap} {a b z TI TO i1 i2 : Addr} {i : Nat} {xs ys : Array Value} (D : wQ z TI TO i1 i2) (st : CT a b z TI TO i1 i2 i h) (h1 : h.IsList a xs) (h2 : h.IsList b ys) : ZipApart z TI TO i1 i2 a b := by
 obtain ⟨hz, hTI, ⟨x, y, hTO⟩, ⟨o1, e1, c1, _⟩, ⟨o2, e2, c2, _⟩⟩ := st
 obtain ⟨oa, ea, ca, _⟩ := h1
 obtain ⟨ob, eb, cb, _⟩ := h2
 exact ⟨D.TIz, D.TOz, D.i1z, D.i2z, D.TITO, D.TIi1, D.TIi2, D.TOi1, D.TOi2, D.i12,
  jx ea hz (by rw [ca]; show Value.type "list" ≠ Value.type "zip"; decide), jx ea hTO (by rw [ca]; show Value.type "list" ≠ Value.type "tuple"; decide), jx ea e1 (by rw [ca, c1]; decide), jx ea e2 (by rw [ca, c2]; decide),
  jx eb hz (by rw [cb]; show Value.type "list" ≠ Value.type "zip"; decide), jx eb hTO (by rw [cb]; show Value.type "list" ≠ Value.type "tuple"; decide), jx eb e1 (by rw [cb, c1]; decide), jx eb e2 (by rw [cb, c2]; decide)⟩
theorem Ag {P : Program} {w : World} {K : PySem.W.Frag} {elts : List Expr} {x1 : Nat} {tpos : Pos} (a b z TI TO i1 i2 : Addr) (D : wQ z TI TO i1 i2) :
  Turn P w K (.Tuple elts x1 tpos) (Itz K a b) [z, TI, TO, i1, i2] z (CT a b z TI TO i1 i2) where
 mem := by simp
 obj := fun i h st c hc => by
  obtain ⟨hz, hTI, ⟨x, y, hTO⟩, ⟨o1, e1, c1, d1⟩, ⟨o2, e2, c2, d2⟩⟩ := st
  have hc' : c = z ∨ c = TI ∨ c = TO ∨ c = i1 ∨ c = i2 := by simpa using hc
  rcases hc' with rfl | rfl | rfl | rfl | rfl
  ·exact ⟨_, hz, fun v q => by cases q⟩
  ·exact ⟨_, hTI, fun v q => by cases q⟩
  ·exact ⟨_, hTO, fun v q => by cases q⟩
  ·exact ⟨_, e1, fun v q => by rw [d1] at q; cases q⟩
  ·exact ⟨_, e2, fun v q => by rw [d2] at q; cases q⟩
 keep := fun i h h' st k => by
  obtain ⟨hz, hTI, ⟨x, y, hTO⟩, h1, h2⟩ := st
  exact ⟨k z (by simp) _ hz, k TI (by simp) _ hTI, ⟨x, y, k TO (by simp) _ hTO⟩, h1.at fun o q => k i1 (by simp) o q, h2.at fun o q => k i2 (by simp) o q⟩
 item := by
  intro X hP hw hK hc i pins s σ H E I hf st hg
  subst hP hw hK
  obtain ⟨xs, ys, x, y, hq1, hq2, hx, hy⟩ := hg
  obtain ⟨is1, rv1, p1, hz1⟩ := I.list hq1
  obtain ⟨is2, rv2, p2, hz2⟩ := I.list hq2
  obtain ⟨u1, hu1, ru1⟩ := rv1.get hx
  obtain ⟨u2, hu2, ru2⟩ := rv2.get hy
  have D7 := uV D st p1.isList p2.isList
  obtain ⟨hz, hTI, ⟨v1, v2, hTO⟩, st1, st2⟩ := id st
  refine wpAny_pyNext_zip_item D7 hz hTI hTO st1 st2 p1.isList p2.isList (x := u1) (by simpa using hu1) (y := u2) (by simpa using hu2) fun h1 a1 a2 a3 a4 a5 a6 hk => ?_
  refine ⟨_, rfl, wpAny_letOwnedTupleGo_zip a1 fun h2 he2 hs2 => ?_⟩
  have lt : ∀ {c o}, s.heap.get? c = some o → s.heap.objs.size ≠ c := fun e => Nat.ne_of_gt (Heap.lt_size e)
  have g2 : h2.get? s.heap.objs.size = some { cls := .type "tuple", data := .seq #[u1, u2] } := (hs2.2 _ (lt hz)).trans a5
  have kk : ∀ b o, b ∉ [z, TI, TO, i1, i2] → s.heap.get? b = some o → h2.get? b = some o := fun b o hb q =>
   (hs2.2 b (fun e => hb (by simp [e]))).trans (hk b o (fun e => hb (by simp [e])) (fun e => hb (by simp [e])) (fun e => hb (by simp [e])) (fun e => hb (by simp [e])) q)
  have new : cj X.prog X.w (upd H s.heap.objs.size (.tup [x, y])) h2 s.heap.objs.size (.tup [x, y]) :=
   ⟨(by show 2 ≤ sizeLine; decide), [u1, u2], .cons ru1 (.cons ru2 .nil), _, g2, rfl, _, rfl⟩
  have I2 := I.turnN (h' := h2) (t' := s.toks) hf kk (Nat.le_refl _) new
  have hn : H s.heap.objs.size = none := I.hok.fresh (Nat.le_refl _)
  refine ⟨.ref s.heap.objs.size, _, I2, rfl, ⟨_, x, y, hn, rfl, rfl, fun zs hq => by rw [I.list_inj hq hq1]; exact hx, fun zs hq => by rw [I.list_inj hq hq2]; exact hy⟩,
   ⟨he2, (hs2.2 _ D.TIz).trans (hk _ _ D.TIz D.TITO D.TIi1 D.TIi2 hTI), ⟨u1, u2, (hs2.2 _ D.TOz).trans a2⟩, a3.extBut hs2.extBut D.i1z, a4.extBut hs2.extBut D.i2z⟩, fun b hb => ?_⟩
  have hbs : b ≠ s.heap.objs.size := by
   obtain ⟨o1, e1, _⟩ := st1
   obtain ⟨o2, e2, _⟩ := st2
   have hc' : b = z ∨ b = TI ∨ b = TO ∨ b = i1 ∨ b = i2 := by simpa using hb
   rcases hc' with rfl | rfl | rfl | rfl | rfl
   ·exact (lt hz).symm
   ·exact (lt hTI).symm
   ·exact (lt hTO).symm
   ·exact (lt e1).symm
   ·exact (lt e2).symm
  rw [aC hbs]
  exact (hf b hb).1
 done := by
  intro X hP hw hK hc i pins s σ H E I hf st hg
  subst hP hw hK
  obtain ⟨xs, ys, hq1, hq2, hx⟩ := hg
  obtain ⟨is1, rv1, p1, hz1⟩ := I.list hq1
  obtain ⟨is2, rv2, p2, hz2⟩ := I.list hq2
  have D7 := uV D st p1.isList p2.isList
  obtain ⟨hz, hTI, ⟨v1, v2, hTO⟩, st1, st2⟩ := id st
  have l1 := rv1.length
  have l2 := rv2.length
  refine wpAny_pyNext_zip_end (I.ok.hd hc) D7 hz hTI hTO st1 st2 p1.isList p2.isList ?_ fun h' hk => ⟨rfl, I.turnedN (t' := s.toks) hf fun b o hb q => hk b o (fun e => hb (by simp [e])) (fun e => hb (by simp [e])) (fun e => hb (by simp [e])) (fun e => hb (by simp [e])) q⟩
  rcases hx with hx | hx
  ·exact .inl (by simp; omega)
  ·exact .inr (by simp; omega)
 self := fun _ _ _ _ _ st h => wpAny_pyIter_zip st.1 h
section
variable {X : Cx}
def Gr (K : PySem.W.Frag) (ta : TA) : TI := fun σ H R => ta σ H fun vs H1 => ∃ a b xs ys, vs = [.ref a, .ref b] ∧ SqL K H1 a xs ∧ SqL K H1 b ys ∧ R (Itz K a b) H1
theorem Eb {a b : Expr} {ta : TA} {p pos : Pos} {elts : List Expr} {x1 : Nat} {tpos : Pos} (hg : Gl X "zip") (hm : X.mg "zip" = none) (hv : bootBuiltins "zip" = some (.type "zip")) (ha : PA X [a, b] ta)
  (hs : starEach [a, b] X.env = [(false, eval a X.env), (false, eval b X.env)] := by rfl) (hs2 : starEach [b] X.env = [(false, eval b X.env)] := by rfl) :
  PI X (.Tuple elts x1 tpos) (.Call (.Name "zip" p) [a, b] [] pos) (Gr X.K ta) := by
 intro pins s σ H R I h
 refine Call_ (dD I hg hm hv (PyProof.Rows.callWith_type1 (thn (ha pos pins s σ H _ I h) fun us s1 ⟨vs, H1, I1, r1, q1⟩ => ?_) (by rw [hs, hs2]) (by rw [hs2]; rfl)))
 obtain ⟨l1, l2, xs, ys, e, hq1, hq2, q⟩ := q1
 subst e
 cases r1 with
 | cons r rr =>
  cases rr with
  | cons r' rr =>
   cases rr
   cases r
   cases r'
   obtain ⟨is1, rv1, p1, hz1⟩ := I1.list hq1
   obtain ⟨is2, rv2, p2, hz2⟩ := I1.list hq2
   refine call_zip_2 p1.isList p2.isList fun h' hz hTI hTO hi1 hi2 hsz hk => ?_
   refine wpAny_pyIter_zip hz ?_
   have I2 : Inv X pins σ H1 { s1 with heap := h' } := I1.kept (t' := s1.toks) hk
   have D : wQ (s1.heap.objs.size + 4) (s1.heap.objs.size + 2) (s1.heap.objs.size + 3) s1.heap.objs.size (s1.heap.objs.size + 1) := by
    have k : ∀ n i j : Nat, i ≠ j → n + i ≠ n + j := fun n i j h => by omega
    exact ⟨k _ 2 4 (by decide), k _ 3 4 (by decide), k _ 0 4 (by decide), k _ 1 4 (by decide), k _ 2 3 (by decide), k _ 2 0 (by decide), k _ 2 1 (by decide), k _ 3 0 (by decide), k _ 3 1 (by decide), k _ 0 1 (by decide)⟩
   refine ⟨s1.heap.objs.size + 4, _, _, Itz X.K l1 l2, H1, rfl, I2, Ag l1 l2 _ _ _ _ _ D, ⟨hz, hTI, ⟨_, _, hTO⟩, hi1, hi2⟩, fun c hc => ?_, q⟩
   have hle : s1.heap.objs.size ≤ c := by
    have hc' : c = s1.heap.objs.size + 4 ∨ c = s1.heap.objs.size + 2 ∨ c = s1.heap.objs.size + 3 ∨ c = s1.heap.objs.size ∨ c = s1.heap.objs.size + 1 := by simpa using hc
    rcases hc' with rfl | rfl | rfl | rfl | rfl
    ·exact Nat.le_add_right _ _
    ·exact Nat.le_add_right _ _
    ·exact Nat.le_add_right _ _
    ·exact Nat.le_refl _
    ·exact Nat.le_add_right _ _
   exact I1.fpOk hle (I1.hok.fresh hle)
end
theorem Bu {K : PySem.W.Frag} {a b : Addr} {xs ys : List V} {g : TG} {tb : TS} {D : Ends} {σ : St} {H : Hp} (Pv : Nat → St → Hp → Prop) (h0 : Pv 0 σ H) (hl : ∀ i σ H, i ≤ min xs.length ys.length → Pv i σ H → SqL K H a xs ∧ SqL K H b ys)
  (hs : ∀ i x y σ H p, xs[i]? = some x → ys[i]? = some y → Pv i σ H → H p = none → g (.ref p) σ (upd H p (.tup [x, y])) fun σ2 H2 => tb { D with nx := Pv (i + 1), ct := Pv (i + 1), bk := D.nx } σ2 H2) (hd : ∀ σ H, Pv (min xs.length ys.length) σ H → D.nx σ H) :
  ∃ W : Nat → Nat → St → Hp → Prop, (∃ m, W 0 m σ H) ∧ ∀ i m σ H, W i m σ H →
   ((Itz K a b).stop i H ∧ D.nx σ H) ∨ ((Itz K a b).go i H ∧ ∃ N : St → Hp → Prop, (∀ σ' H', N σ' H' → ∃ m', m' < m ∧ W (i + 1) m' σ' H') ∧ ∀ x H', (Itz K a b).yld i H x H' → g x σ H' fun σ2 H2 => tb { D with nx := N, ct := N, bk := D.nx } σ2 H2) := by
 refine ⟨fun i m σ H => m = min xs.length ys.length - i ∧ i ≤ min xs.length ys.length ∧ Pv i σ H, ⟨min xs.length ys.length, rfl, Nat.zero_le _, h0⟩, ?_⟩
 rintro i m σ H ⟨rfl, hi, p⟩
 obtain ⟨q1, q2⟩ := hl i σ H hi p
 by_cases hlt : i < min xs.length ys.length
 ·have k1 : i < xs.length := by omega
  have k2 : i < ys.length := by omega
  refine .inr ⟨⟨xs, ys, xs[i], ys[i], q1, q2, List.getElem?_eq_getElem k1, List.getElem?_eq_getElem k2⟩, Pv (i + 1), fun σ' H' p' => ⟨min xs.length ys.length - (i + 1), by omega, rfl, hlt, p'⟩, fun x H' y => ?_⟩
  obtain ⟨c, x, y, hn, e1, e2, hx, hy⟩ := y
  subst e1 e2
  exact hs i x y σ H c (hx xs q1) (hy ys q2) p hn
 ·have e : i = min xs.length ys.length := by omega
  subst e
  exact .inl ⟨⟨xs, ys, q1, q2, by omega⟩, hd σ H p⟩
end L2
set_option Elab.async false
set_option linter.all false
set_option maxRecDepth 100000
set_option maxHeartbeats 4000000
namespace Tw
def brk : List Int → Int → List Int
 | [], u => List.replicate u.toNat 0
 | d :: r, u => List.replicate (u - d).toNat 0 ++ 1 :: brk r (d + 1)
def Dp : List Int → Int → Prop
 | [], u => 0 ≤ u
 | d :: r, u => 0 ≤ d ∧ d ≤ u ∧ Dp r (d + 1)
theorem Dp.pos : ∀ {l : List Int} {u : Int}, Dp l u → 0 ≤ u
 | [], _, h => h
 | _ :: _, _, h => Int.le_trans h.1 h.2.1
theorem iR : ∀ {l : List Int} {u : Int}, Dp l u → (brk l u).length = u.toNat + 2 * l.length
 | [], u, _ => by simp [brk]
 | d :: r, u, h => by
  have := iR h.2.2
  have h1 := h.1
  have h2 := h.2.1
  simp only [brk, List.length_append, List.length_replicate, List.length_cons, this]
  omega
theorem uI {l : List Int} {u x : Int} {t : List Int} (h : Dp l u) (e : brk l u = x :: t) :
  (x = 0 ∧ 1 ≤ u ∧ t = brk l (u - 1) ∧ Dp l (u - 1)) ∨ ∃ r, l = u :: r ∧ x = 1 ∧ t = brk r (u + 1) ∧ Dp r (u + 1) := by
 cases l with
 | nil =>
  have hu : 0 ≤ u := h
  rcases Int.lt_or_le 0 u with z | z
  ·refine .inl ?_
   have e1 : u.toNat = (u - 1).toNat + 1 := by omega
   simp only [brk] at e ⊢
   rw [e1, List.replicate_succ] at e
   injection e with e2 e3
   exact ⟨e2.symm, z, e3.symm, show 0 ≤ u - 1 by omega⟩
  ·have : u.toNat = 0 := by omega
   simp only [brk] at e
   rw [this] at e
   cases e
 | cons d r =>
  obtain ⟨h1, h2, h3⟩ := h
  rcases Int.lt_or_le d u with z | z
  ·refine .inl ?_
   have e1 : (u - d).toNat = (u - 1 - d).toNat + 1 := by omega
   simp only [brk] at e ⊢
   rw [e1, List.replicate_succ, List.cons_append] at e
   injection e with e2 e3
   exact ⟨e2.symm, by omega, e3.symm, h1, by omega, h3⟩
  ·have : u = d := by omega
   subst this
   refine .inr ⟨r, rfl, ?_⟩
   simp only [brk] at e
   rw [Int.sub_self] at e
   injection e with e2 e3
   exact ⟨e2.symm, e3.symm, h3⟩
theorem BX {l : List Int} {u : Int} (h : Dp l u) (e : brk l u = []) : l = [] ∧ u = 0 := by
 have := iR h
 rw [e] at this
 have hp := h.pos
 cases l with
 | nil =>
  refine ⟨rfl, ?_⟩
  have : 0 = u.toNat + 2 * 0 := this
  omega
 | cons d r =>
  rw [List.length_cons] at this
  have : 0 = u.toNat + 2 * (r.length + 1) := this
  omega
def bT (ds : List Int) : Prop := ds[0]? = some 0 ∧ ∀ i x y, ds[i]? = some x → ds[i + 1]? = some y → 1 ≤ y ∧ y ≤ x + 1
theorem CV : ∀ (r : List Int) (a : Int), (∀ (i : Nat) (x y : Int), (a :: r)[i]? = some x → (a :: r)[i + 1]? = some y → 1 ≤ y ∧ y ≤ x + 1) → 0 ≤ a → Dp r (a + 1)
 | [], a, _, ha => by show 0 ≤ a + 1; omega
 | d :: r, a, h, ha => by
  have h0 := h 0 a d rfl rfl
  exact ⟨by omega, h0.2, CV r d (fun i x y h1 h2 => h (i + 1) x y h1 h2) (by omega)⟩
theorem bT.dp {ds : List Int} (h : bT ds) : Dp ds 0 := by
 cases ds with
 | nil => exact absurd h.1 (by simp)
 | cons d r =>
  have : d = 0 := by
   have := h.1
   exact Option.some.inj this
  subst this
  exact ⟨by decide, by decide, CV r 0 h.2 (by decide)⟩
theorem bT.one {ds : List Int} (h : bT ds) {i : Nat} {d : Int} (hi : 0 < i) (hd : ds[i]? = some d) : 1 ≤ d := by
 obtain ⟨j, rfl⟩ : ∃ j, i = j + 1 := ⟨i - 1, by omega⟩
 have hl := (List.getElem?_eq_some_iff.mp hd).1
 have := h.2 j ds[j] d (List.getElem?_eq_getElem (by omega)) hd
 exact this.1
theorem bT.root : bT [0] := ⟨rfl, fun i x y _ h2 => by simp at h2⟩
theorem bT.snoc {ds : List Int} {a d : Int} (h : bT ds) (hl : ds[ds.length - 1]? = some a) (h1 : 1 ≤ d) (h2 : d ≤ a + 1) : bT (ds ++ [d]) := by
 have h0 : 0 < ds.length := by
  have := (List.getElem?_eq_some_iff.mp h.1).1
  exact this
 refine ⟨by rw [List.getElem?_append_left h0]; exact h.1, fun i x y e1 e2 => ?_⟩
 rcases Nat.lt_or_ge (i + 1) ds.length with z | z
 ·rw [List.getElem?_append_left (by omega)] at e1
  rw [List.getElem?_append_left z] at e2
  exact h.2 i x y e1 e2
 ·have hz := (List.getElem?_eq_some_iff.mp e2).1
  rw [List.length_append, List.length_singleton] at hz
  have ei : i = ds.length - 1 := by omega
  rw [List.getElem?_append_left (by omega), ei, hl] at e1
  rw [List.getElem?_append_right z, show i + 1 - ds.length = 0 from by omega] at e2
  have e2 : d = y := Option.some.inj e2
  have e1 : a = x := Option.some.inj e1
  subst e1 e2
  exact ⟨h1, h2⟩
end Tw
set_option Elab.async false
set_option linter.all false
set_option maxRecDepth 100000
set_option maxHeartbeats 4000000
namespace L2
open PySem PySem.Spec PyProof.Rows
end L2
namespace L2
open PySem PySem.Spec PyProof.Rows
section
variable (P : Program) (w : World)
end
section
variable {P : Program} {w : World} {H H' : Hp} {h h' : Heap} {a : Addr} {o : HO}
end
section
variable {P : Program} {w : World} {H : Hp} {h h' : Heap} {x e : Addr} {o' : HO}
end
section
variable {fs fs' ex ex' : List Addr} {H H1 H2 : Hp} {h h1 h2 h' : Heap} {a x e : Addr} {o : HO}
end
end L2
namespace L2
open PySem PySem.Spec PyProof.Rows
section
variable {X : Cx} {pins : List (Addr × Obj)} {σ : List (Option V)} {H H' : Hp} {s : Shared} {h' : Heap}
end
end L2
namespace L2
open PySem PySem.Spec PyProof.Rows
section
variable {X : Cx}
variable {a b : Expr} {ta tb : TE} {pos : Pos}
variable {tA tB' : TT} {rest : List Expr}
end
end L2
namespace L2
open PySem PySem.Spec PyProof.Rows
section
variable {X : Cx} {pins : List (Addr × Obj)} {σ : St} {H : Hp} {s : Shared} {a : Addr} {xs ys : List V}
end
section
variable {X : Cx} {pins : List (Addr × Obj)} {σ : St} {H : Hp} {s : Shared} {E : Value → Shared → Prop}
end
section
variable {X : Cx} {st : Stmt} {rest : List Stmt} {t u : TS} {e : Expr} {te : TE} {pos : Pos}
end
section
variable {X : Cx} {pos : Pos}
end
section
variable {X : Cx} {pos : Pos}
end
end L2
namespace L2
open PySem PySem.Spec PyProof.Rows
section
variable {X : Cx} {tg : Expr}
end
end L2
namespace L2
open PySem PySem.Spec PyProof.Rows
section
variable {X : Cx} {a b c : Expr} {ta tb tc : TE} {pos : Pos}
end
section
variable {X : Cx} {a b c : Expr} {ta tb tc : TE} {pos : Pos}
end
end L2
namespace L2
open PySem PySem.Spec PyProof.Rows
section
variable {prog : Program} {w : World} {A : Around} {E : Value → Shared → Prop} {s : Shared} {K : PySem.W.Frag} {x dx C f : Addr} {mA : Str → Option Value} {name : Str} {v : Value}
end
section
variable {P : Program} {w : World} {H H' : Hp} {h h' : Heap} {a C dx : Addr} {fs fs' : List (Str × V)}
end
section
variable {X : Cx} {pins : List (Addr × Obj)} {σ : St} {H : Hp} {s : Shared} {a C dx : Addr} {fs : List (Str × V)} {f : Str} {v : V} {A : Around} {E : Value → Shared → Prop}
end
section
variable {X : Cx} {o e value : Expr} {f : Str} {pos pos' tpos : Pos} {ta tv : TE}
end
section
variable {X : Cx} {pins : List (Addr × Obj)} {σ : St} {H : Hp} {s : Shared} {A : Around} {E : Value → Shared → Prop} {Q : Value → Shared → Prop} {c : Value} {b : Bool}
end
end L2
namespace L2
open PySem PySem.Spec PyProof.Rows
section
variable {X : Cx} {e : Expr} {es : List Expr} {te : TE} {t : TA} {pos : Pos}
end
section
variable {X : Cx} {pins : List (Addr × Obj)} {σ : St} {H : Hp} {s s' : Shared}
end
section
variable {X : Cx} {CX : CXT} {k : Nat} {f C : Addr} {fd : FuncData} {ps : List Str} {sp : Sp} {dvs : List V} {ds : List Value} {E : XK} {x m : Str} {p pos apos : Pos} {e o : Expr} {es : List Expr} {ta : TE} {t : TA}
end
section
variable {X : Cx} {CX : CXT} {k : Nat} {f C : Addr} {fd : FuncData} {ps ks : List Str} {sp : Sp} {E : XK} {x m : Str} {p pos apos kpos : Pos} {e o : Expr} {es : List Expr} {kws : List Keyword} {te ta : TE} {t tk : TA} {nm : Option Str}
variable {g : List Value → List Value → List Value} {gV : List V → List V → List V}
end
end L2
namespace L2
open PySem PySem.Spec PyProof.Rows
section
variable {X : Cx} {x : Str} {p pos : Pos} {e : Expr} {es : List Expr} {t : TA} {id T : String} {r : List V → Hp → VK → Prop}
end
end L2
namespace L2
open PySem PySem.Spec PyProof.Rows
section
variable {κ : Type} [DecidableEq κ]
def Cr (kvs : List (κ × V)) (k : κ) : List (κ × V) := kvs.filter fun kv => decide (kv.1 ≠ k)
theorem KV.drop {kvs : List (κ × V)} {vs : List (κ × Value)} (r : KV kvs vs) (k : κ) : KV (Cr kvs k) (without vs k) := by
 unfold KV at r ⊢
 unfold Cr without
 induction r with
 | nil => exact .nil
 | @cons p q ps qs h t ih =>
  obtain ⟨h1, h2⟩ := h
  rw [List.filter_cons, List.filter_cons]
  by_cases e : p.1 = k
  ·have a : ¬ decide (p.1 ≠ k) = true := by simp [e]
   have b : ¬ decide (q.1 ≠ k) = true := by simp [h1.symm.trans e]
   rw [if_neg a, if_neg b]; exact ih
  ·have e' : ¬ q.1 = k := fun z => e (h1.trans z)
   have a : decide (p.1 ≠ k) = true := by simp [e]
   have b : decide (q.1 ≠ k) = true := by simp [e']
   rw [if_pos a, if_pos b]; exact .cons ⟨h1, h2⟩ ih
theorem KV.length {kvs : List (κ × V)} {vs : List (κ × Value)} (r : KV kvs vs) : kvs.length = vs.length := Paired.length r
end
section
variable {P : Program} {w : World} {H : Hp} {h : Heap} {a : Addr}
end
section
variable {X : Cx} {pins : List (Addr × Obj)} {σ : St} {H : Hp} {s : Shared} {a : Addr} {y v : V} {u r : Value} {o : Option V} {A : Around} {E : Value → Shared → Prop}
end
section
variable {X : Cx} {pins : List (Addr × Obj)} {σ : St} {H : Hp} {s : Shared} {a : Addr} {kvs : List (Key × V)} {k : Key} {u : Value} {A : Around} {E : Value → Shared → Prop}
end
section
variable {X : Cx} {o i e value : Expr} {pos pos' tpos : Pos} {td ty tv : TE}
end
section
variable {X : Cx} {pos : Pos}
end
section
variable {X : Cx} {pins : List (Addr × Obj)} {σ : St} {H : Hp} {s : Shared} {a : Addr} {y d : V} {u r : Value} {o : Option V} {A : Around} {E : Value → Shared → Prop}
end
section
variable {X : Cx} {o e f : Expr} {apos cpos : Pos} {td ty tx : TE}
end
section
variable {X : Cx} {pins : List (Addr × Obj)} {σ : St} {H : Hp} {s : Shared} {a : Addr} {kvs : List (Key × V)} {A : Around} {E : Value → Shared → Prop}
end
section
variable {X : Cx} {pins : List (Addr × Obj)} {σ : St} {H : Hp} {s : Shared} {a : Addr} {y : V} {u : Value} {A : Around} {E : Value → Shared → Prop}
end
end L2
namespace Att
open PySem PySem.W PySem.Calls PyProof.Rows
section
variable {prog : Program} {w : World} {A : Around} {E : Value → Shared → Prop} {s : Shared} {K : Frag}
end
end Att
namespace L2
open PySem PySem.Spec PyProof.Rows
end L2
namespace L2
open PySem PySem.Spec PyProof.Rows
end L2
/- THE LAST THEOREM (shape; LID, My.* are yours):
   My.Adr: a structure of the addresses that your layer names (classes, functions); My.Txt K t: a structure (Prop) of the equations over K;
   My.txt_mk : {K} {implicit addresses ..} (e1 : nsIn K mainGlobals "law" = some (some (.ref f))) (e2 : K.lookup f = some ⟨oc, od, .func (fnOf "law" "law" params body scope dV kV doc pm an cdv ct), sl⟩) (e3 : codeIn K cdv "law" = true) .. : ∃ t, My.Txt K t
set_option maxRecDepth 100000 in
set_option maxHeartbeats 0 in
theorem PySem.Challenge.cw_LID_holds : PySem.Challenge.rw_LID.Holds := by
 w_on; o_law; k_head; (case hw => w_witness2)
 k_fill
 refine L2.walk_of (l := PySem.Challenge.rw_LID) (n := 63) (k := 40) (x := "script") (CX := fun w => ..) (sp := fun _ => My.sp_law) rfl (by decide) rfl ⟨rfl, by decide, by decide⟩ (fun w h Y => PySem.W.kIn_of Y) ?F ?S ?C
 case F =>
  intro w mg fa h KX G hmg
  have T : ∃ t, My.Txt (L2.KOf KX) t := by
   dsimp only [L2.KOf]                          -- K must stand as «<heap const> w.params» for k_is
   refine' My.txt_mk ?e1 ?e2 ?e3 ..
   (case e1 => PySem.W.k_is)                    -- in the order: a name -> its address -> its object -> its parts
   (case e2 => PySem.W.k_is)
   ..
  obtain ⟨t, T⟩ := T
  have e0 := hmg.symm.trans (PySem.W.mg_of KX G T.law)
  cases e0                                       -- fa is the law's own address
  exact ⟨_, fun s u => .of_eq rfl, fun base kb nb => My.law_fn T kb nb⟩     -- if «.of_eq rfl» comes too early: refine' ⟨_, ?b, fun base kb nb => My.law_fn T kb nb⟩; exact fun s u => .of_eq rfl
 case S => exact fun w H a ns hl hO hS => ..
 case C => exact ..
(the tactic k_is has no namespace: write k_is) -/
namespace L2
open PySem PySem.Spec PyProof.Rows
section
variable {P : Program} {w : World} {K : PySem.W.Frag} {mg : Str → Option Value} {base : Heap}
end
section
variable {X : Cx}
end
section
variable {κ : Type} [DecidableEq κ]
end
end L2
set_option Elab.async false
set_option linter.all false
set_option maxRecDepth 100000
set_option maxHeartbeats 4000000
namespace L2
open PySem PySem.Spec PyProof.Rows
section
variable {X : Cx} {st : Stmt} {rest : List Stmt} {t u : TS}
theorem aK {CX : CXT} {x : Str} {sd : Stmt} {ps : List Str} {f : Addr} {fd : FuncData} {sp : Sp} {j k : Nat} {E : XK} {e : Expr} {es : List Expr} {p pos : Pos} {t : TA} (D : Tw.Df X.K X.mg x sd ps f fd) (F : aW X.prog X.w X.K X.mg X.base CX j f fd ps sp) (hj : j ≤ k) (hr : cJ k X.A) (hx : gk CX X E) (hg : Gl X x)
  (ha : PA X (e :: es) t) (hdb : (x == ("__debug__" : Str)) = false := by decide) (he : starEach (e :: es) X.env = (false, eval e X.env) :: starEach es X.env := by rfl) (hpl : (backTo pos (starEach es X.env)).any (·.1) = false := by rfl) :
  PE X (.Call (.Name x p) (e :: es) [] pos) (Cv sp [] E t) := Cd (F.mono hj) hr hg D.m D.F.kp D.b .nil hx ha hdb he hpl
end
end L2
namespace Tw
open PySem L2
structure Dm (K : PySem.W.Frag) (x q : Str) (st : Stmt) (ps : List Str) (f : Addr) (fd : FuncData) : Prop where
 F : Fun K x q st f fd
 b : Binds K fd ps []
end Tw
set_option Elab.async false
set_option linter.all false
set_option maxRecDepth 100000
set_option maxHeartbeats 4000000
namespace Tw
theorem dz {ns : List Int} {k : Nat} {b : Int} (h : ns[k]? = some b) : (ns.take (k + 1)).sum = (ns.take k).sum + b := by
 rw [List.take_add_one, h]
 simp [List.sum_append]
theorem jk {ns : List Int} (h : aU ns) (i : Nat) : ∀ j : Nat, i ≤ j → (ns.take i).sum ≤ (ns.take j).sum
 | 0, hj => by
  have : i = 0 := by omega
  subst this
  exact Int.le_refl _
 | j + 1, hj => by
  by_cases e : i = j + 1
  ·subst e
   exact Int.le_refl _
  have := jk h i j (by omega)
  cases q : ns[j]? with
  | none =>
   rw [List.take_add_one, q]
   simp
   exact this
  | some b =>
   rw [dz q]
   have := h b (List.mem_of_getElem? q)
   omega
theorem uR : ∀ l : List Int, blk (l.map fun x => 1 - x) = 2 ^ l.length - 1 - blk l
 | [] => by simp [blk]
 | x :: l => by
  rw [List.map_cons, List.length_cons, Int.pow_succ]
  simp only [blk]
  rw [uR l]
  omega
theorem ut : ∀ (l : List Int) (k : Nat), k ≤ l.length → ((l.map fun x => 1 - x).take k).sum = k - (l.take k).sum
 | _, 0, _ => by simp
 | [], k + 1, h => by simp at h
 | x :: l, k + 1, h => by
  have := ut l k (by simpa using h)
  rw [List.map_cons, List.take_succ_cons, List.take_succ_cons, List.sum_cons, List.sum_cons, this]
  omega
theorem turned {b : Int} (h0 : 0 ≤ b) (h1 : b < 2 ^ 32) : (∀ k : Nat, k < 32 → bit (2 ^ 32 - 1 - b) k = 1 - bit b k) ∧ ∀ k : Nat, k ≤ 32 → ones (2 ^ 32 - 1 - b) k = k - ones b k := by
 have hb := vH b 32
 have e := uJ 32 b h0 h1
 have hl := dX b 32
 have ht : aU ((bits b 32).map fun x => 1 - x) := fun x hx => by
  obtain ⟨y, hy, rfl⟩ := List.mem_map.mp hx
  have := hb y hy
  omega
 have et : blk ((bits b 32).map fun x => 1 - x) = 2 ^ 32 - 1 - b := by rw [uR, hl, e]
 refine ⟨fun k hk => ?_, fun k hk => ?_⟩
 ·rw [← et, pq ht, List.getElem?_map, pP hk]
  rfl
 ·rw [← et, jw ht, ut _ _ (by omega), ← jw hb, e]
theorem Aa (b t : Int) (ht : 0 ≤ t) : ∀ n : Nat, t < ones b n → ∃ k, k < n ∧ bit b k = 1 ∧ ones b k = t
 | 0, h => by
  rw [mC] at h
  omega
 | n + 1, h => by
  by_cases c : t < ones b n
  ·obtain ⟨k, h1, h2⟩ := Aa b t ht n c
   exact ⟨k, by omega, h2⟩
  ·rw [jR] at h
   have hb : bit b n = 0 ∨ bit b n = 1 := by
    unfold bit
    omega
   exact ⟨n, by omega, by omega, by omega⟩
end Tw
set_option Elab.async false
set_option linter.all false
set_option maxRecDepth 100000
set_option maxHeartbeats 4000000
namespace Tw
theorem fQ : ∀ (l : List Int) (u : Int), aU (brk l u)
 | [], u => fun b hb => .inl (List.eq_of_mem_replicate hb)
 | d :: r, u => fun b hb => by
  simp only [brk, List.mem_append, List.mem_cons] at hb
  rcases hb with hb | rfl | hb
  ·exact .inl (List.eq_of_mem_replicate hb)
  ·exact .inr rfl
  ·exact fQ r _ b hb
theorem zK {ns : List Int} {k : Nat} {b : Int} (h : ns[k]? = some b) : (ns.take (k + 1)).sum = (ns.take k).sum + b := by
 rw [List.take_add_one, h]
 simp
theorem tK {ds : List Int} (hg : bT ds) : ∀ k : Nat, k ≤ (brk ds 0).length → ∃ nd : Nat, nd ≤ ds.length ∧ nd ≤ k ∧ ((brk ds 0).take k).sum = nd ∧ (brk ds 0).drop k = brk (ds.drop nd) (ht (brk ds 0) k) ∧ Dp (ds.drop nd) (ht (brk ds 0) k)
 | 0, _ => ⟨0, Nat.zero_le _, Nat.le_refl _, rfl, by rw [fB]; rfl, by rw [fB]; exact hg.dp⟩
 | k + 1, hk => by
  obtain ⟨nd, h1, h2, h3, h4, h5⟩ := tK hg k (by omega)
  have hg1 : (brk ds 0)[k]? = some (brk ds 0)[k] := List.getElem?_eq_getElem (by omega)
  have e1 : (brk ds 0).drop k = (brk ds 0)[k] :: (brk ds 0).drop (k + 1) := List.drop_eq_getElem_cons (by omega)
  rw [e1] at h4
  have hh := dR hg1
  have hs := zK hg1
  rcases uI h5 h4.symm with ⟨z, _, e2, d2⟩ | ⟨r, e0, z, e2, d2⟩
  ·rw [z] at hh hs
   refine ⟨nd, h1, by omega, by omega, ?_, ?_⟩
   ·rw [hh, e2]
    congr 1
    omega
   ·rw [hh, show ht (brk ds 0) k + 2 * 0 - 1 = ht (brk ds 0) k - 1 from by omega]
    exact d2
  ·rw [z] at hh hs
   have hlt : nd < ds.length := by
    have := congrArg List.length e0
    rw [List.length_drop, List.length_cons] at this
    omega
   have ed : ds.drop (nd + 1) = r := by
    have : ds.drop (nd + 1) = (ds.drop nd).drop 1 := by rw [List.drop_drop]
    rw [this, e0]
    rfl
   have eh : ht (brk ds 0) k + 2 * 1 - 1 = ht (brk ds 0) k + 1 := by omega
   refine ⟨nd + 1, hlt, by omega, by omega, ?_, ?_⟩
   ·rw [hh, eh, ed]
    exact e2
   ·rw [hh, eh, ed]
    exact d2
theorem iy {ds : List Int} (hg : bT ds) : (brk ds 0).length = 2 * ds.length := by
 rw [iR hg.dp]
 show 0 + _ = _
 omega
theorem uB {ds : List Int} (hg : bT ds) {k : Nat} (hk : k < (brk ds 0).length) : ((brk ds 0)[k]? = some 0 ∧ 0 < ht (brk ds 0) k) ∨ ((brk ds 0)[k]? = some 1 ∧ ∃ nd : Nat, ((brk ds 0).take k).sum = nd ∧ nd < ds.length ∧ ds[nd]? = some (ht (brk ds 0) k)) := by
 obtain ⟨nd, h1, h2, h3, h4, h5⟩ := tK hg k (by omega)
 have hg1 : (brk ds 0)[k]? = some (brk ds 0)[k] := List.getElem?_eq_getElem (by omega)
 have e1 : (brk ds 0).drop k = (brk ds 0)[k] :: (brk ds 0).drop (k + 1) := List.drop_eq_getElem_cons (by omega)
 rw [e1] at h4
 rcases uI h5 h4.symm with ⟨z, u, e2, d2⟩ | ⟨r, e0, z, e2, d2⟩
 ·exact .inl ⟨by rw [hg1, z], by omega⟩
 ·refine .inr ⟨by rw [hg1, z], nd, h3, ?_, ?_⟩
  ·have := congrArg List.length e0
   rw [List.length_drop, List.length_cons] at this
   omega
  ·have := List.getElem?_drop (xs := ds) (i := nd) (j := 0)
   rw [e0] at this
   exact this.symm
theorem iu {ds : List Int} (hg : bT ds) : Tree (brk ds 0) := by
 have hl := iy hg
 have h0 : 0 < ds.length := (List.getElem?_eq_some_iff.mp hg.1).1
 refine ⟨by omega, ?_, fun k k0 k1 => ?_⟩
 ·obtain ⟨nd, h1, h2, h3, h4, h5⟩ := tK hg _ (Nat.le_refl _)
  rw [List.drop_length] at h4
  exact (BX h5 h4.symm).2
 ·rcases uB hg k1 with ⟨_, z⟩ | ⟨_, nd, e1, e2, e3⟩
  ·exact z
  ·obtain ⟨_, _, _, _, _, h5⟩ := tK hg k (by omega)
   have hp := h5.pos
   rcases Nat.eq_zero_or_pos nd with rfl | z
   ·unfold ht at hp
    omega
   ·have := hg.one z e3
    omega
theorem Bw {ds : List Int} (hg : bT ds) {k : Nat} (hk : (brk ds 0).length ≤ k) : ((brk ds 0).take k).sum = ds.length := by
 have h := (iu hg).2.1
 have hl := iy hg
 unfold ht at h
 rw [List.take_length] at h
 rw [List.take_of_length_le hk]
 omega
theorem jC {ds : List Int} (hg : bT ds) : (brk ds 0).sum = ds.length := by
 have := Bw hg (k := (brk ds 0).length) (Nat.le_refl _)
 rw [List.take_length] at this
 exact this
theorem u9 {ds : List Int} (hg : bT ds) {i p : Nat} (h1 : (brk ds 0)[p]? = some 1) (h2 : ((brk ds 0).take p).sum = (i : Int)) : ds[i]? = some (ht (brk ds 0) p) := by
 have hp := (List.getElem?_eq_some_iff.mp h1).1
 rcases uB hg hp with ⟨z, _⟩ | ⟨_, nd, n1, n2, n3⟩
 ·rw [z] at h1
  cases h1
 ·have : nd = i := by omega
  subst this
  exact n3
end Tw
set_option Elab.async false
set_option linter.all false
set_option maxRecDepth 100000
set_option maxHeartbeats 4000000
namespace Tw
structure Pair (ns : List Int) (a b : Nat) : Prop where
 lt : a < b
 ltn : b < ns.length
 one : ns[a]? = some 1
 nought : ns[b]? = some 0
 eq : ht ns (b + 1) = ht ns a
 above : ∀ k, a < k → k ≤ b → ht ns a < ht ns k
theorem mj {ns : List Int} (hb : aU ns) {a k : Nat} (h1 : ns[a]? = some 1) (f : cR ns a ns.length (ht ns a) (k + 1)) : Pair ns a k := by
 obtain ⟨f1, f2, f3, f4⟩ := f
 have e := dR h1
 have hak : a < k := by
  rcases Nat.lt_or_ge a k with z | z
  ·exact z
  ·have : k = a := by omega
   subst this
   omega
 have up := f4 k hak (by omega)
 rcases zV hb (show k < ns.length by omega) with ⟨z1, z2⟩ | ⟨z1, z2⟩
 ·omega
 ·exact ⟨hak, by omega, h1, z1, by omega, fun i i1 i2 => f4 i i1 (by omega)⟩
theorem tE {ns : List Int} (hb : aU ns) {a k : Nat} {g : Int} (hg : g < ht ns a) (ha : a ≤ ns.length) (f : fV ns a g k) : ns[k]? = some 1 ∧ ht ns k = g ∧ ∀ i, k < i → i ≤ a → g < ht ns i := by
 obtain ⟨f1, f2, f3⟩ := f
 have up : ∀ i, k < i → i ≤ a → g < ht ns i := fun i i1 i2 => by
  rcases Nat.lt_or_ge i a with z | z
  ·exact f3 i i1 z
  ·have : i = a := by omega
   rw [this]
   exact hg
 have := up (k + 1) (by omega) (by omega)
 rcases zV hb (show k < ns.length by omega) with ⟨z1, z2⟩ | ⟨z1, z2⟩
 ·exact ⟨z1, by omega, up⟩
 ·omega
theorem fL {ns : List Int} (hb : aU ns) {a k : Nat} (h1 : ns[a]? = some 0) (f : fV ns a (ht ns a - 1) k) : Pair ns k a := by
 have ha := (List.getElem?_eq_some_iff.mp h1).1
 obtain ⟨g1, g2, g3⟩ := tE hb (by omega) (Nat.le_of_lt ha) f
 have e := dR h1
 exact ⟨f.1, ha, g1, h1, by omega, fun i i1 i2 => by have := g3 i i1 i2; omega⟩
def sy (ns : List Int) (a k : Nat) : Prop := (ns[a]? = some 1 ∧ cR ns a ns.length (ht ns a) (k + 1)) ∨ (ns[a]? = some 0 ∧ fV ns a (ht ns a - 1) k)
end Tw
set_option Elab.async false
set_option linter.all false
set_option maxRecDepth 100000
set_option maxHeartbeats 4000000
namespace Tw
open PySem L2
theorem zY (ns : List Int) (n : Nat) : ahd ns n = (List.range n).map (fun k => (ns.take (32 * k)).sum) ++ [(ns.take (32 * n)).sum] := by
 unfold ahd
 rw [List.range_succ, List.map_append]
 rfl
def UpN (ds : List Int) (j : Nat) (g : Int) (i : Nat) : Prop := i ≤ j ∧ ds[i]? = some g ∧ ∀ m x, i < m → m ≤ j → ds[m]? = some x → g < x
theorem UpN.trans {ds : List Int} {j i e : Nat} {g : Int} (h : UpN ds j g i) (h' : UpN ds i (g - 1) e) : UpN ds j (g - 1) e := by
 obtain ⟨a1, a2, a3⟩ := h
 obtain ⟨b1, b2, b3⟩ := h'
 refine ⟨by omega, b2, fun m x m1 m2 e => ?_⟩
 rcases Nat.lt_or_ge i m with z | z
 ·have := a3 m x z m2 e
  omega
 ·exact b3 m x m1 z e
theorem DX {ns : List Int} (hb : aU ns) {m : Nat} (h : (m : Int) < ns.sum) : ∃ p, ns[p]? = some 1 ∧ (ns.take p).sum = (m : Int) := by
 have : ∀ n : Nat, n ≤ ns.length → (m : Int) < (ns.take n).sum → ∃ p, ns[p]? = some 1 ∧ (ns.take p).sum = (m : Int) := by
  intro n
  induction n with
  | zero =>
   intro _ z
   rw [List.take_zero] at z
   have : ([] : List Int).sum = 0 := rfl
   omega
  | succ n ih =>
   intro hn z
   have e := List.getElem?_eq_getElem (show n < ns.length by omega)
   rw [dz e] at z
   by_cases c : (m : Int) < (ns.take n).sum
   ·exact ih (by omega) c
   ·rcases hb _ (List.getElem_mem (show n < ns.length by omega)) with y | y
    ·omega
    ·rw [y] at e z
     exact ⟨n, e, by omega⟩
 exact this ns.length (Nat.le_refl _) (by rw [List.take_length]; exact h)
def run (ds : List Int) (k : Nat) (g : Int) : Nat := ((ds.drop k).takeWhile fun x => decide (g < x)).length
end Tw
set_option Elab.async false
set_option linter.all false
set_option maxRecDepth 100000
set_option maxHeartbeats 4000000
namespace L2
open PySem PySem.Spec PyProof.Rows
section
variable {X : Cx}
theorem Bl : OpR X (compareOp .IsNot) (fun x y H Q => ∃ b c : Bool, x = .bl b ∧ y = .bl c ∧ Q (.bl (b != c)) H) := by
 intro pins s σ H x y v u Q I rx ry h
 obtain ⟨b, c, rfl, rfl, q⟩ := h
 cases rx
 cases ry
 exact isnot_bool (bB I q rfl)
end
end L2
namespace Tw
open PySem L2
theorem bu (v : Int) (b : Bool) : PyData.eqv (.tuple [.int v, .bool b]) (.tuple [.int v, .bool b]) = true := by
 show (_ && _) = true
 cases b <;> simp [PyData.eqv, PyData.eqvAll]
def dC (ns : List Int) (x : Nat) (v : Int) : Prop := (ns[x]? = some 1 ∧ v = (ns.take x).sum) ∨ (ns[x]? = some 0 ∧ ∃ k, fV ns x (ht ns x - 1) k ∧ v = (ns.take k).sum)
theorem fV.uniq {ns : List Int} {b : Nat} {g : Int} {k l : Nat} (h : fV ns b g k) (h' : fV ns b g l) : k = l := by
 obtain ⟨a1, a2, a3⟩ := h
 obtain ⟨b1, b2, b3⟩ := h'
 rcases Nat.lt_trichotomy k l with z | z | z
 ·have := a3 l z b1
  omega
 ·exact z
 ·have := b3 k z a1
  omega
theorem dC.uniq {ns : List Int} {x : Nat} {v v' : Int} (h : dC ns x v) (h' : dC ns x v') : v = v' := by
 rcases h with ⟨h1, rfl⟩ | ⟨h1, k, h2, rfl⟩ <;> rcases h' with ⟨g1, rfl⟩ | ⟨g1, l, g2, rfl⟩
 ·rfl
 ·rw [h1] at g1
  cases g1
 ·rw [h1] at g1
  cases g1
 ·rw [h2.uniq g2]
def dN (ns : List Int) (L : Nat) (ps : List Int) : Prop := (ps.length : Int) = ht ns L ∧ ∀ (i : Nat) (v : Int), ps[i]? = some v → ∃ q, fV ns L (i : Int) q ∧ v = (ns.take q).sum
theorem dN.nil (ns : List Int) : dN ns 0 [] := ⟨by rw [fB]; rfl, by simp⟩
theorem dN.open {ns : List Int} {L : Nat} {ps : List Int} (h : dN ns L ps) (h1 : ns[L]? = some 1) : dN ns (L + 1) (ps ++ [(ns.take L).sum]) := by
 obtain ⟨hl, ha⟩ := h
 refine ⟨?_, fun i v hv => ?_⟩
 ·rw [dR h1, List.length_append, List.length_singleton]
  omega
 ·rcases Nat.lt_trichotomy i ps.length with z | z | z
  ·rw [List.getElem?_append_left z] at hv
   obtain ⟨q, ⟨q1, q2, q3⟩, e⟩ := ha i v hv
   refine ⟨q, ⟨by omega, q2, fun m m1 m2 => ?_⟩, e⟩
   rcases Nat.lt_or_ge m L with y | y
   ·exact q3 m m1 y
   ·have : m = L := by omega
    subst this
    omega
  ·subst z
   rw [List.getElem?_append_right (Nat.le_refl _), Nat.sub_self] at hv
   cases hv
   exact ⟨L, ⟨by omega, by omega, fun m m1 m2 => by omega⟩, rfl⟩
  ·have := (List.getElem?_eq_some_iff.mp hv).1
   rw [List.length_append, List.length_singleton] at this
   omega
theorem dN.shut {ns : List Int} {L : Nat} {ps : List Int} (h : dN ns L ps) (h1 : ns[L]? = some 0) (hp : 0 < ps.length) : dN ns (L + 1) ps.dropLast ∧ ∃ v, ps[ps.length - 1]? = some v ∧ dC ns L v := by
 obtain ⟨hl, ha⟩ := h
 refine ⟨⟨?_, fun i v hv => ?_⟩, ?_⟩
 ·rw [dR h1, List.length_dropLast]
  omega
 ·have hi := (List.getElem?_eq_some_iff.mp hv).1
  rw [List.length_dropLast] at hi
  rw [List.getElem?_dropLast, if_pos hi] at hv
  obtain ⟨q, ⟨q1, q2, q3⟩, e⟩ := ha i v hv
  refine ⟨q, ⟨by omega, q2, fun m m1 m2 => ?_⟩, e⟩
  rcases Nat.lt_or_ge m L with y | y
  ·exact q3 m m1 y
  ·have : m = L := by omega
   subst this
   omega
 ·have e := List.getElem?_eq_getElem (show ps.length - 1 < ps.length by omega)
  obtain ⟨q, hq, ev⟩ := ha _ _ e
  refine ⟨_, e, .inr ⟨h1, q, ?_, ev⟩⟩
  rw [show ht ns L - 1 = ((ps.length - 1 : Nat) : Int) by omega]
  exact hq
theorem dN.goes {ds : List Int} (hg : bT ds) {L k : Nat} {d : Int} (hk : ds[k]? = some d) (hs : ((brk ds 0).take L).sum = (k : Int)) (hL : L < (brk ds 0).length) :
  (d < ht (brk ds 0) L → (brk ds 0)[L]? = some 0) ∧ (¬ d < ht (brk ds 0) L → (brk ds 0)[L]? = some 1) := by
 have hb := fQ ds 0
 have e := List.getElem?_eq_getElem hL
 have hbit := hb _ (List.mem_of_getElem? e)
 generalize (brk ds 0)[L] = b at *
 refine ⟨fun h => ?_, fun h => ?_⟩
 ·rcases hbit with rfl | rfl
  ·exact e
  ·have := u9 hg e hs
   rw [hk] at this
   have := Option.some.inj this
   omega
 ·rcases hbit with rfl | rfl
  ·exfalso
   have hkl := (List.getElem?_eq_some_iff.mp hk).1
   obtain ⟨x, x1, x2⟩ := DX hb (m := k) (by rw [jC hg]; omega)
   have hd := u9 hg x1 x2
   rw [hk] at hd
   have hd := Option.some.inj hd
   have hLx : L < x := by
    rcases Nat.lt_trichotomy L x with z | z | z
    ·exact z
    ·subst z
     rw [e] at x1
     cases x1
    ·have := jk hb (x + 1) L z
     rw [dz x1] at this
     omega
   have e1 : ht (brk ds 0) L = 2 * ((brk ds 0).take L).sum - (L : Int) := rfl
   have e2 : ht (brk ds 0) x = 2 * ((brk ds 0).take x).sum - (x : Int) := rfl
   omega
  ·exact e
end Tw
set_option Elab.async false
set_option linter.all false
set_option maxRecDepth 100000
set_option maxHeartbeats 4000000
namespace L2
open PySem PySem.Spec PyProof.Rows
section
variable {X : Cx} {tg : Expr}
end
end L2
namespace Tw
open PySem L2
theorem sy.node {ns : List Int} (hb : aU ns) {x y : Nat} {v : Int} (m : sy ns x y) (h : dC ns x v) : dC ns y v := by
 rcases m with ⟨h1, f⟩ | ⟨h0, f⟩
 ·have pr := mj hb h1 f
  have lt := pr.lt
  have e := dR pr.nought
  have eq := pr.eq
  rcases h with ⟨_, rfl⟩ | ⟨h0, _⟩
  ·exact .inr ⟨pr.nought, x, ⟨lt, by omega, fun i i1 i2 => by have := pr.above i i1 (by omega); omega⟩, rfl⟩
  ·rw [h1] at h0
   cases h0
 ·rcases h with ⟨h1, _⟩ | ⟨_, k, hk, rfl⟩
  ·rw [h0] at h1
   cases h1
  ·have := hk.uniq f
   subst this
   exact .inl ⟨(fL hb h0 f).one, rfl⟩
theorem sy.lt {ns : List Int} {x y : Nat} (m : sy ns x y) : y < ns.length := by
 rcases m with ⟨_, _, f, _⟩ | ⟨h0, f, _⟩
 ·omega
 ·have := (List.getElem?_eq_some_iff.mp h0).1
  omega
theorem sy.other {ns : List Int} (hb : aU ns) {x y : Nat} (m : sy ns x y) : (ns[x]? = some 1 → ns[y]? = some 0) ∧ (ns[x]? = some 0 → ns[y]? = some 1) := by
 refine ⟨fun h => ?_, fun h => ?_⟩
 ·rcases m with ⟨h1, f⟩ | ⟨h0, _⟩
  ·exact (mj hb h1 f).nought
  ·rw [h] at h0
   cases h0
 ·rcases m with ⟨h1, _⟩ | ⟨h0, f⟩
  ·rw [h] at h1
   cases h1
  ·exact (fL hb h0 f).one
end Tw
set_option Elab.async false
set_option linter.all false
set_option maxRecDepth 100000
set_option maxHeartbeats 4000000
namespace Tw
open PySem L2
theorem yK (v v' : Int) (b b' : Bool) : PyData.eqv (.tuple [.int v, .bool b]) (.tuple [.int v', .bool b']) = (decide (v = v') && (b == b')) := by
 show (_ && _) = _
 cases b <;> cases b' <;> simp [PyData.eqv, PyData.eqvAll] <;> rfl
theorem ye {ns : List Int} (hb : aU ns) {i j : Nat} (hi : ns[i]? = some 1) (hj : ns[j]? = some 1) (e : (ns.take i).sum = (ns.take j).sum) : i = j := by
 rcases Nat.lt_trichotomy i j with z | z | z
 ·have := jk hb (i + 1) j z
  rw [dz hi] at this
  omega
 ·exact z
 ·have := jk hb (j + 1) i z
  rw [dz hj] at this
  omega
theorem Pair.uniq {ns : List Int} {a b c : Nat} (h : Pair ns a b) (h' : Pair ns a c) : b = c := by
 have e := h.eq
 have e' := h'.eq
 rcases Nat.lt_trichotomy b c with z | z | z
 ·have := h'.above (b + 1) (by have := h.lt; omega) (by omega)
  omega
 ·exact z
 ·have := h.above (c + 1) (by have := h'.lt; omega) (by omega)
  omega
theorem dC.inj {ns : List Int} (hb : aU ns) {i j : Nat} {v : Int} (h : dC ns i v) (h' : dC ns j v) (e : ns[i]? = ns[j]?) : i = j := by
 rcases h with ⟨h1, rfl⟩ | ⟨h0, k, hk, rfl⟩ <;> rcases h' with ⟨g1, g2⟩ | ⟨g0, l, hl, g2⟩
 ·exact ye hb h1 g1 g2
 ·rw [h1, g0] at e
  cases e
 ·rw [h0, g1] at e
  cases e
 ·have p1 := fL hb h0 hk
  have p2 := fL hb g0 hl
  have := ye hb p1.one p2.one g2
  subst this
  exact p1.uniq p2
end Tw
set_option Elab.async false
set_option linter.all false
set_option maxRecDepth 100000
set_option maxHeartbeats 4000000
namespace L2
open PySem PySem.Spec PyProof.Rows PySem.W
section
variable {X : Cx}
def xT (K : PySem.W.Frag) (x : V) (vs : List V) (H : Hp) (Q : VK) : Prop := ∃ (l : Addr) (xs : List V) (y : V) (ds : List PyData) (d : PyData) (j : Nat), x = .ref l ∧ vs = [y] ∧ H l = some (.lst xs) ∧ gW K H xs ds ∧ kO K H y d ∧ PyData.canLayAll0 ds = true ∧ d.canLay0 = true ∧ d.depth ≤ 8 ∧
 (∃ e, ds[j]? = some e ∧ PyData.eqv e d = true) ∧ (∀ i e, i < j → ds[i]? = some e → PyData.eqv e d = false) ∧ Q (.int (j : Int)) H
theorem mR (hu : X.A.units + 64 < cLine) : MtM X "list.index" (xT X.K) := by
 intro pins s σ H x vs v us Q I rx rv h
 obtain ⟨l, xs, y, ds, d, j, rfl, rfl, hH, hd, hy, c1, c2, c3, ⟨e0, h1, h1'⟩, h2, q⟩ := h
 cases rx
 obtain ⟨u, rfl, ru⟩ := rv.one
 obtain ⟨z, its, n, r, hl, e⟩ := I.lstM hH
 obtain ⟨as, ra⟩ := hd.reads I r
 obtain ⟨bs, rb⟩ := hy.reads I ru
 have em := SeqAt.readsAll_map ds its as c1 ra
 have at_ : ∀ i (hi : i < its.length), ds[i]? = some (SeqAt.readOf s.heap its[i]) := fun i hi => by
  rw [← em, List.getElem?_map, List.getElem?_eq_getElem hi]
  rfl
 have hlen : its.length = ds.length := by rw [← em, List.length_map]
 have hj := (List.getElem?_eq_some_iff.mp h1).1
 rw [sizeLine_eq] at z
 have hm : min (PyData.depthAll ds) d.depth ≤ 8 := Nat.le_trans (Nat.min_le_right _ _) c3
 refine call_meets F.slot_list_index ⟨_, e, rfl⟩ F.entry_list_index (F.args_list_index_2 _ _)
  (SeqAt.list_indexAt l its.toArray n none #[] u (fun y => PyData.eqv (SeqAt.readOf s.heap y) d) j (by rw [List.size_toArray]; omega) (by omega) ?_ ?_) ⟨e, SeqAt.items_eqAt (xs := ds) (by simpa using ra) rb c1 c2 (by omega), ?_⟩
 ·have := at_ j (by omega)
  rw [h1] at this
  have := Option.some.inj this
  have hjs : j < its.toArray.size := by rw [List.size_toArray]; omega
  show PyData.eqv (SeqAt.readOf s.heap its.toArray[j]) d = true
  rw [List.getElem_toArray, ← this]
  exact h1'
 ·intro i hi hlt
  have hi' : i < its.length := by simpa using hi
  show PyData.eqv (SeqAt.readOf s.heap its.toArray[i]) d = false
  rw [List.getElem_toArray]
  exact h2 i _ hlt (at_ i hi')
 exact ⟨.int (j : Int), H, I.tok _, ⟨_, rfl⟩, q⟩
end
end L2
set_option Elab.async false
set_option maxRecDepth 100000
set_option maxHeartbeats 4000000
namespace Tw
open PySem L2
def top (i : Nat) : Stmt := PySem.Challenge.pw_thinwood_k52_hands_apart.main.body.getD i (.Pass ⟨0, 0, 0, 0⟩)
abbrev zr : Stmt := top 0
abbrev pB : Stmt := top 15
theorem zf : aF ["bits"] ["bits"] (defScope pB) := ⟨rfl, rfl, rfl, by decide +kernel, rfl, by decide +kernel, by decide +kernel⟩
abbrev jm : Stmt := top 16
theorem lG : aF ["bits", "bit"] ["bits"] (defScope jm) := ⟨rfl, rfl, rfl, by decide +kernel, rfl, by decide +kernel, by decide +kernel⟩
abbrev kY : Stmt := top 17
theorem gD : aF ["bits", "block", "bit"] ["bits"] (defScope kY) := ⟨rfl, rfl, rfl, by decide +kernel, rfl, by decide +kernel, by decide +kernel⟩
abbrev pI : Stmt := top 18
theorem zq : aF ["block", "k"] ["block", "k"] (defScope pI) := ⟨rfl, rfl, rfl, by decide +kernel, rfl, by decide +kernel, by decide +kernel⟩
abbrev mQ : Stmt := top 19
theorem xg : aF ["block", "upto"] ["block", "upto"] (defScope mQ) := ⟨rfl, rfl, rfl, by decide +kernel, rfl, by decide +kernel, by decide +kernel⟩
abbrev mV : Stmt := top 20
theorem wX : aF ["block", "upto"] ["block", "upto"] (defScope mV) := ⟨rfl, rfl, rfl, by decide +kernel, rfl, by decide +kernel, by decide +kernel⟩
abbrev qm : Stmt := top 21
theorem ir : aF ["block", "nth", "ones", "k", "bit"] ["block", "nth"] (defScope qm) := ⟨rfl, rfl, rfl, by decide +kernel, rfl, by decide +kernel, by decide +kernel⟩
abbrev nQ : Stmt := top 22
theorem fM : aF ["block", "upto", "nets", "net", "bit"] ["block", "upto"] (defScope nQ) := ⟨rfl, rfl, rfl, by decide +kernel, rfl, by decide +kernel, by decide +kernel⟩
abbrev pO : Stmt := top 23
theorem yx : aF ["block", "upto"] ["block", "upto"] (defScope pO) := ⟨rfl, rfl, rfl, by decide +kernel, rfl, by decide +kernel, by decide +kernel⟩
abbrev fW : Stmt := top 24
theorem eF : aF ["block", "start", "stop", "goal", "k", "net"] ["block", "start", "stop", "goal"] (defScope fW) := ⟨rfl, rfl, rfl, by decide +kernel, rfl, by decide +kernel, by decide +kernel⟩
abbrev gQ : Stmt := top 25
theorem cO : aF ["block", "start", "stop", "goal", "found", "k", "net"] ["block", "start", "stop", "goal"] (defScope gQ) := ⟨rfl, rfl, rfl, by decide +kernel, rfl, by decide +kernel, by decide +kernel⟩
abbrev mz : Stmt := top 28
theorem iC : aF ["numbers", "size", "nodes", "node"] ["numbers"] (defScope mz) := ⟨rfl, rfl, rfl, by decide +kernel, rfl, by decide +kernel, by decide +kernel⟩
abbrev mL : Stmt := top 29
theorem j4 : aF ["many", "size"] ["many"] (defScope mL) := ⟨rfl, rfl, rfl, by decide +kernel, rfl, by decide +kernel, by decide +kernel⟩
abbrev jH : Stmt := top 30
theorem tM : aF ["one", "other"] ["one", "other"] (defScope jH) := ⟨rfl, rfl, rfl, by decide +kernel, rfl, by decide +kernel, by decide +kernel⟩
abbrev eO : Stmt := top 31
theorem iw : aF ["many", "look", "start", "goal", "node"] ["many", "look", "start", "goal"] (defScope eO) := ⟨rfl, rfl, rfl, by decide +kernel, rfl, by decide +kernel, by decide +kernel⟩
abbrev gq : Stmt := top 32
theorem jh : aF ["many", "look", "stop", "goal", "node"] ["many", "look", "stop", "goal"] (defScope gq) := ⟨rfl, rfl, rfl, by decide +kernel, rfl, by decide +kernel, by decide +kernel⟩
abbrev eY : Stmt := top 33
theorem cT : aF ["size", "look", "node", "goal", "side", "found"] ["size", "look", "node", "goal", "side"] (defScope eY) := ⟨rfl, rfl, rfl, by decide +kernel, rfl, by decide +kernel, by decide +kernel⟩
abbrev eZ : Stmt := top 34
theorem nF : aF ["many", "start", "stop"] ["many", "start", "stop"] (defScope eZ) := ⟨rfl, rfl, rfl, by decide +kernel, rfl, by decide +kernel, by decide +kernel⟩
abbrev ul : Stmt := top 35
theorem cV : aF ["many", "start", "stop", "size", "low", "high", "lefts", "rights"] ["many", "start", "stop"] (defScope ul) := ⟨rfl, rfl, rfl, by decide +kernel, rfl, by decide +kernel, by decide +kernel⟩
abbrev kZ : Stmt := top 37
theorem oF : aF ["bits", "blocks"] ["bits"] (defScope kZ) := ⟨rfl, rfl, rfl, by decide +kernel, rfl, by decide +kernel, by decide +kernel⟩
abbrev kJ : Stmt := top 38
theorem jA : aF ["blocks", "ahead", "block"] ["blocks"] (defScope kJ) := ⟨rfl, rfl, rfl, by decide +kernel, rfl, by decide +kernel, by decide +kernel⟩
abbrev gO : Stmt := top 39
theorem p8 : aF ["at", "most"] ["at", "most"] (defScope gO) := ⟨rfl, rfl, rfl, by decide +kernel, rfl, by decide +kernel, by decide +kernel⟩
abbrev pZ : Stmt := top 40
theorem yP : aF ["tables", "look", "at"] ["tables", "look", "at"] (defScope pZ) := ⟨rfl, rfl, rfl, by decide +kernel, rfl, by decide +kernel, by decide +kernel⟩
abbrev nq : Stmt := top 41
theorem gr : aF ["tables", "look", "at", "many", "ahead", "number", "within"] ["tables", "look", "at"] (defScope nq) := ⟨rfl, rfl, rfl, by decide +kernel, rfl, by decide +kernel, by decide +kernel⟩
abbrev jG : Stmt := top 42
theorem iV : aF ["tables", "look", "nth", "ahead", "number"] ["tables", "look", "nth"] (defScope jG) := ⟨rfl, rfl, rfl, by decide +kernel, rfl, by decide +kernel, by decide +kernel⟩
abbrev jq : Stmt := top 43
theorem tO : aF ["nth", "many"] ["nth", "many"] (defScope jq) := ⟨rfl, rfl, rfl, by decide +kernel, rfl, by decide +kernel, by decide +kernel⟩
abbrev dm : Stmt := top 44
theorem bH : aF ["numbers", "goal", "low", "high", "middle"] ["numbers", "goal"] (defScope dm) := ⟨rfl, rfl, rfl, by decide +kernel, rfl, by decide +kernel, by decide +kernel⟩
abbrev mO : Stmt := top 46
theorem fX : aF ["bits", "level", "at", "bit"] ["bits"] (defScope mO) := ⟨rfl, rfl, rfl, by decide +kernel, rfl, by decide +kernel, by decide +kernel⟩
abbrev dI : Stmt := top 47
theorem lQ : aF ["bits"] ["bits"] (defScope dI) := ⟨rfl, rfl, rfl, by decide +kernel, rfl, by decide +kernel, by decide +kernel⟩
abbrev eG : Stmt := top 48
theorem cA : aF ["bits", "row", "tables", "blocks", "lows"] ["bits"] (defScope eG) := ⟨rfl, rfl, rfl, by decide +kernel, rfl, by decide +kernel, by decide +kernel⟩
abbrev p6 : Stmt := top 49
theorem yH : aF ["tables", "number", "block"] ["tables", "number", "block"] (defScope p6) := ⟨rfl, rfl, rfl, by decide +kernel, rfl, by decide +kernel, by decide +kernel⟩
abbrev nO : Stmt := top 50
theorem vY : aF ["tables", "number"] ["tables", "number"] (defScope nO) := ⟨rfl, rfl, rfl, by decide +kernel, rfl, by decide +kernel, by decide +kernel⟩
abbrev fY : Stmt := top 51
theorem oX : aF ["number", "at"] ["number", "at"] (defScope fY) := ⟨rfl, rfl, rfl, by decide +kernel, rfl, by decide +kernel, by decide +kernel⟩
abbrev iD : Stmt := top 52
theorem qH : aF ["number", "upto"] ["number", "upto"] (defScope iD) := ⟨rfl, rfl, rfl, by decide +kernel, rfl, by decide +kernel, by decide +kernel⟩
abbrev gK : Stmt := top 53
theorem pR : aF ["tables"] ["tables"] (defScope gK) := ⟨rfl, rfl, rfl, by decide +kernel, rfl, by decide +kernel, by decide +kernel⟩
abbrev b7 : Stmt := top 54
theorem lL : aF ["tables", "nodes"] ["tables"] (defScope b7) := ⟨rfl, rfl, rfl, by decide +kernel, rfl, by decide +kernel, by decide +kernel⟩
abbrev qj : Stmt := top 55
theorem yr : aF ["tables", "look", "at"] ["tables", "look", "at"] (defScope qj) := ⟨rfl, rfl, rfl, by decide +kernel, rfl, by decide +kernel, by decide +kernel⟩
abbrev iM : Stmt := top 56
theorem dU : aF ["tables", "look", "at", "goal", "number", "found", "further"] ["tables", "look", "at", "goal"] (defScope iM) := ⟨rfl, rfl, rfl, by decide +kernel, rfl, by decide +kernel, by decide +kernel⟩
abbrev gw : Stmt := top 57
theorem eE : aF ["tables", "look", "number", "at", "goal", "start", "stop"] ["tables", "look", "number", "at", "goal"] (defScope gw) := ⟨rfl, rfl, rfl, by decide +kernel, rfl, by decide +kernel, by decide +kernel⟩
abbrev fU : Stmt := top 58
theorem oH : aF ["number", "within"] ["number", "within"] (defScope fU) := ⟨rfl, rfl, rfl, by decide +kernel, rfl, by decide +kernel, by decide +kernel⟩
abbrev jK : Stmt := top 59
theorem lA : aF ["tables", "look", "at", "goal", "found"] ["tables", "look", "at", "goal"] (defScope jK) := ⟨rfl, rfl, rfl, by decide +kernel, rfl, by decide +kernel, by decide +kernel⟩
abbrev eV : Stmt := top 60
theorem cU : aF ["tables", "look", "upto", "goal", "number", "found", "further"] ["tables", "look", "upto", "goal"] (defScope eV) := ⟨rfl, rfl, rfl, by decide +kernel, rfl, by decide +kernel, by decide +kernel⟩
abbrev gH : Stmt := top 61
theorem jM : aF ["tables", "look", "number", "upto", "goal", "stop"] ["tables", "look", "number", "upto", "goal"] (defScope gH) := ⟨rfl, rfl, rfl, by decide +kernel, rfl, by decide +kernel, by decide +kernel⟩
abbrev dZ : Stmt := top 62
theorem m9 : aF ["tables", "look", "at", "bit"] ["tables", "look", "at", "bit"] (defScope dZ) := ⟨rfl, rfl, rfl, by decide +kernel, rfl, by decide +kernel, by decide +kernel⟩
abbrev m5 : Stmt := top 63
theorem vO : aF ["tables", "look", "at"] ["tables", "look", "at"] (defScope m5) := ⟨rfl, rfl, rfl, by decide +kernel, rfl, by decide +kernel, by decide +kernel⟩
abbrev mD : Stmt := top 64
theorem wF : aF ["tables", "look", "at"] ["tables", "look", "at"] (defScope mD) := ⟨rfl, rfl, rfl, by decide +kernel, rfl, by decide +kernel, by decide +kernel⟩
abbrev iJ : Stmt := top 66
theorem qT : aF ["tables"] ["tables"] (defScope iJ) := ⟨rfl, rfl, rfl, by decide +kernel, rfl, by decide +kernel, by decide +kernel⟩
abbrev iZ : Stmt := top 67
theorem qM : aF ["tables", "node"] ["tables", "node"] (defScope iZ) := ⟨rfl, rfl, rfl, by decide +kernel, rfl, by decide +kernel, by decide +kernel⟩
abbrev nH : Stmt := top 68
theorem wA : aF ["tables", "look", "at"] ["tables", "look", "at"] (defScope nH) := ⟨rfl, rfl, rfl, by decide +kernel, rfl, by decide +kernel, by decide +kernel⟩
abbrev kI : Stmt := top 69
theorem uL : aF ["tables", "look", "node"] ["tables", "look", "node"] (defScope kI) := ⟨rfl, rfl, rfl, by decide +kernel, rfl, by decide +kernel, by decide +kernel⟩
abbrev jJ : Stmt := inClass (top 71) 0
theorem tX : aF ["self", "tables", "look"] ["self", "tables", "look"] (defScope jJ) := ⟨rfl, rfl, rfl, by decide +kernel, rfl, by decide +kernel, by decide +kernel⟩
abbrev jL : Stmt := inClass (top 71) 1
theorem sG : aF ["self"] ["self"] (defScope jL) := ⟨rfl, rfl, rfl, by decide +kernel, rfl, by decide +kernel, by decide +kernel⟩
abbrev dq : Stmt := inClass (top 71) 2
theorem kW : aF ["self"] ["self"] (defScope dq) := ⟨rfl, rfl, rfl, by decide +kernel, rfl, by decide +kernel, by decide +kernel⟩
abbrev jF : Stmt := inClass (top 71) 3
theorem sU : aF ["self"] ["self"] (defScope jF) := ⟨rfl, rfl, rfl, by decide +kernel, rfl, by decide +kernel, by decide +kernel⟩
abbrev jy : Stmt := inClass (top 71) 4
theorem rT : aF ["self"] ["self"] (defScope jy) := ⟨rfl, rfl, rfl, by decide +kernel, rfl, by decide +kernel, by decide +kernel⟩
abbrev dH : Stmt := inClass (top 71) 5
theorem mq : aF ["self"] ["self"] (defScope dH) := ⟨rfl, rfl, rfl, by decide +kernel, rfl, by decide +kernel, by decide +kernel⟩
abbrev ju : Stmt := inClass (top 71) 6
theorem ud : aF ["self"] ["self"] (defScope ju) := ⟨rfl, rfl, rfl, by decide +kernel, rfl, by decide +kernel, by decide +kernel⟩
abbrev gf : Stmt := inClass (top 71) 12
theorem oO : aF ["self", "node"] ["self", "node"] (defScope gf) := ⟨rfl, rfl, rfl, by decide +kernel, rfl, by decide +kernel, by decide +kernel⟩
abbrev fZ : Stmt := top 74
theorem eX : aF ["depths", "ahead", "depth"] ["depths"] (defScope fZ) := ⟨rfl, rfl, rfl, by decide +kernel, rfl, by decide +kernel, by decide +kernel⟩
abbrev gP : Stmt := top 75
theorem cP : aF ["depths", "bits", "unclosed", "depth"] ["depths"] (defScope gP) := ⟨rfl, rfl, rfl, by decide +kernel, rfl, by decide +kernel, by decide +kernel⟩
abbrev jE : Stmt := top 76
theorem uf : aF ["depths"] ["depths"] (defScope jE) := ⟨rfl, rfl, rfl, by decide +kernel, rfl, by decide +kernel, by decide +kernel⟩
abbrev iK : Stmt := top 78
theorem bJ : aF ["_law_cells", "_law_most", "_law_depths_here", "_law_cell", "_law_number", "_law_deep", "_law_many", "_law_k"] ["_law_cells", "_law_most"] (defScope iK) := ⟨rfl, rfl, rfl, by decide +kernel, rfl, by decide +kernel, by decide +kernel⟩
abbrev gj : Stmt := top 79
theorem cY : aF ["_law_depths_here", "_law_row", "_law_path", "_law_node"] ["_law_depths_here"] (defScope gj) := ⟨rfl, rfl, rfl, by decide +kernel, rfl, by decide +kernel, by decide +kernel⟩
abbrev cB : Stmt := top 80
theorem n6 : aF ["_law_blocks", "_law_seen", "_law_told"] ["_law_blocks", "_law_seen"] (defScope cB) := ⟨rfl, rfl, rfl, by decide +kernel, rfl, by decide +kernel, by decide +kernel⟩
abbrev jD : Stmt := top 81
theorem lY : aF ["_law_seen", "_law_size", "_law_number"] ["_law_seen", "_law_size"] (defScope jD) := ⟨rfl, rfl, rfl, by decide +kernel, rfl, by decide +kernel, by decide +kernel⟩
abbrev gG : Stmt := top 82
theorem cM : aF ["_law_hand", "_law_node", "_law_told_here", "e", "_law_others"] ["_law_hand", "_law_node"] (defScope gG) := ⟨rfl, rfl, rfl, by decide +kernel, rfl, by decide +kernel, by decide +kernel⟩
abbrev j8 : Stmt := top 83
theorem bD : aF ["_law_hand", "_law_row", "_law_spot", "_law_number", "_law_far", "_law_many", "_law_way", "_law_found"] ["_law_hand", "_law_row", "_law_spot", "_law_number", "_law_far"] (defScope j8) := ⟨rfl, rfl, rfl, by decide +kernel, rfl, by decide +kernel, by decide +kernel⟩
abbrev jn : Stmt := top 84
theorem iY : aF ["_law_hand", "_law_first", "_law_node", "_law_there_here"] ["_law_hand", "_law_first"] (defScope jn) := ⟨rfl, rfl, rfl, by decide +kernel, rfl, by decide +kernel, by decide +kernel⟩
abbrev Ab : Stmt := top 85
theorem eU : aF ["_law_script", "_law_trees", "_law_rows", "_law_kept", "_law_seen", "_law_hands", "_law_spots", "_law_cell", "_law_number", "_law_k", "_law_far", "_law_other"] ["_law_script"] (defScope Ab) := ⟨rfl, rfl, rfl, by decide +kernel, rfl, by decide +kernel, by decide +kernel⟩
abbrev bR : Stmt := (defBody b7).getD 1 (.Pass ⟨0, 0, 0, 0⟩)
abbrev aY : qt := lamOf bR "heap_look.<locals>.<lambda>" ["node"] ["nodes"]
theorem mG : pW ["node", "nodes"] aY := ⟨rfl, rfl, rfl, by decide +kernel, rfl, by decide +kernel, by decide +kernel, by decide +kernel, by decide +kernel⟩
theorem tU : Bd ["tables", "nodes"] "heap_look" (defScope b7) aY [1] (fun L => [L + 1]) := ⟨fun _ _ _ => rfl, fun _ _ _ => rfl, fun _ _ _ => rfl, fun L => by simp, fun _ => rfl, fun L f c j a h => match j, h with | 0, h => ⟨"nodes", 1, by cases h; rfl, by decide +kernel, rfl, rfl⟩ | j + 1, h => absurd h (by simp)⟩
abbrev dO : Stmt := (defBody cB).getD 0 (.Pass ⟨0, 0, 0, 0⟩)
abbrev cQ : qD := Fg dO "_law_look.<locals>._law_told" ["_law_number"] ["_law_seen", "_law_blocks"]
theorem uP : qd ["_law_number", "_law_seen", "_law_blocks"] cQ := ⟨rfl, rfl, rfl, by decide +kernel, rfl, by decide +kernel, by decide +kernel, by decide +kernel, by decide +kernel⟩
theorem vB : Dj ["_law_blocks", "_law_seen", "_law_told"] "_law_look" (defScope cB) cQ 2 [1, 0] (fun L => [L + 2, L + 1]) := ⟨n6.nd, rfl, by decide +kernel, fun _ _ _ => rfl, fun _ _ _ => rfl, rfl, rfl, fun _ _ _ => rfl, fun L => by simp, fun _ => rfl, fun L f c j a h => match j, h with | 0, h => ⟨"_law_seen", 1, by cases h; rfl, by decide +kernel, rfl, rfl, by decide⟩ | 1, h => ⟨"_law_blocks", 0, by cases h; rfl, by decide +kernel, rfl, rfl, by decide⟩ | j + 2, h => absurd h (by simp), by decide, by decide⟩
structure FI (K : PySem.W.Frag) (n : Str) (st : Stmt) (f : Addr) (fd : FuncData) : Prop where
 a : PySem.W.nsIn K mainGlobals n = some (some (.ref f))
 F : Fun K n n st f fd
theorem zN {α : Type} {C : List α → Prop} {us : List α} (hl : us.length = 1) (h : ∀ x0, C [x0]) : C us := match us, hl with | [_], _ => h _
theorem df1 {K : PySem.W.Frag} {h : Heap} {mg : Str → Option Value} {n p0 : Str} {st : Stmt} {f : Addr} {fd : FuncData} (X : K.In h) (G : h.Ns mainGlobals mg) (d : FI K n st f fd) (b : ∀ (kV doc pm : Value) (an : Option Addr) (cdv ct : Value) (x0 : Value), bindArgs (PySem.W.fnOf n n (defArgs st) (defBody st) (defScope st) .none kV doc pm an cdv ct) ⟨[x0], []⟩ = pure (List.zip [p0] [x0])) : Df K mg n st [p0] f fd := ⟨d.F, d.F.binds (ps := [p0]) fun kV doc pm an cdv ct us hl => zN (C := fun us => bindArgs _ ⟨us, []⟩ = pure (List.zip ([p0] : List Str) us)) hl (b kV doc pm an cdv ct), PySem.W.mg_of X G d.a⟩
theorem dm1 {K : PySem.W.Frag} {n q p0 : Str} {st : Stmt} {f : Addr} {fd : FuncData} (d : Fun K n q st f fd) (b : ∀ (kV doc pm : Value) (an : Option Addr) (cdv ct : Value) (x0 : Value), bindArgs (PySem.W.fnOf n q (defArgs st) (defBody st) (defScope st) .none kV doc pm an cdv ct) ⟨[x0], []⟩ = pure (List.zip [p0] [x0])) : Dm K n q st [p0] f fd := ⟨d, d.binds (ps := [p0]) fun kV doc pm an cdv ct us hl => zN (C := fun us => bindArgs _ ⟨us, []⟩ = pure (List.zip ([p0] : List Str) us)) hl (b kV doc pm an cdv ct)⟩
theorem zO {α : Type} {C : List α → Prop} {us : List α} (hl : us.length = 2) (h : ∀ x0 x1, C [x0, x1]) : C us := match us, hl with | [_, _], _ => h _ _
theorem df2 {K : PySem.W.Frag} {h : Heap} {mg : Str → Option Value} {n p0 p1 : Str} {st : Stmt} {f : Addr} {fd : FuncData} (X : K.In h) (G : h.Ns mainGlobals mg) (d : FI K n st f fd) (b : ∀ (kV doc pm : Value) (an : Option Addr) (cdv ct : Value) (x0 x1 : Value), bindArgs (PySem.W.fnOf n n (defArgs st) (defBody st) (defScope st) .none kV doc pm an cdv ct) ⟨[x0, x1], []⟩ = pure (List.zip [p0, p1] [x0, x1])) : Df K mg n st [p0, p1] f fd := ⟨d.F, d.F.binds (ps := [p0, p1]) fun kV doc pm an cdv ct us hl => zO (C := fun us => bindArgs _ ⟨us, []⟩ = pure (List.zip ([p0, p1] : List Str) us)) hl (b kV doc pm an cdv ct), PySem.W.mg_of X G d.a⟩
theorem dm2 {K : PySem.W.Frag} {n q p0 p1 : Str} {st : Stmt} {f : Addr} {fd : FuncData} (d : Fun K n q st f fd) (b : ∀ (kV doc pm : Value) (an : Option Addr) (cdv ct : Value) (x0 x1 : Value), bindArgs (PySem.W.fnOf n q (defArgs st) (defBody st) (defScope st) .none kV doc pm an cdv ct) ⟨[x0, x1], []⟩ = pure (List.zip [p0, p1] [x0, x1])) : Dm K n q st [p0, p1] f fd := ⟨d, d.binds (ps := [p0, p1]) fun kV doc pm an cdv ct us hl => zO (C := fun us => bindArgs _ ⟨us, []⟩ = pure (List.zip ([p0, p1] : List Str) us)) hl (b kV doc pm an cdv ct)⟩
theorem CQ {α : Type} {C : List α → Prop} {us : List α} (hl : us.length = 3) (h : ∀ x0 x1 x2, C [x0, x1, x2]) : C us := match us, hl with | [_, _, _], _ => h _ _ _
theorem df3 {K : PySem.W.Frag} {h : Heap} {mg : Str → Option Value} {n p0 p1 p2 : Str} {st : Stmt} {f : Addr} {fd : FuncData} (X : K.In h) (G : h.Ns mainGlobals mg) (d : FI K n st f fd) (b : ∀ (kV doc pm : Value) (an : Option Addr) (cdv ct : Value) (x0 x1 x2 : Value), bindArgs (PySem.W.fnOf n n (defArgs st) (defBody st) (defScope st) .none kV doc pm an cdv ct) ⟨[x0, x1, x2], []⟩ = pure (List.zip [p0, p1, p2] [x0, x1, x2])) : Df K mg n st [p0, p1, p2] f fd := ⟨d.F, d.F.binds (ps := [p0, p1, p2]) fun kV doc pm an cdv ct us hl => CQ (C := fun us => bindArgs _ ⟨us, []⟩ = pure (List.zip ([p0, p1, p2] : List Str) us)) hl (b kV doc pm an cdv ct), PySem.W.mg_of X G d.a⟩
theorem dm3 {K : PySem.W.Frag} {n q p0 p1 p2 : Str} {st : Stmt} {f : Addr} {fd : FuncData} (d : Fun K n q st f fd) (b : ∀ (kV doc pm : Value) (an : Option Addr) (cdv ct : Value) (x0 x1 x2 : Value), bindArgs (PySem.W.fnOf n q (defArgs st) (defBody st) (defScope st) .none kV doc pm an cdv ct) ⟨[x0, x1, x2], []⟩ = pure (List.zip [p0, p1, p2] [x0, x1, x2])) : Dm K n q st [p0, p1, p2] f fd := ⟨d, d.binds (ps := [p0, p1, p2]) fun kV doc pm an cdv ct us hl => CQ (C := fun us => bindArgs _ ⟨us, []⟩ = pure (List.zip ([p0, p1, p2] : List Str) us)) hl (b kV doc pm an cdv ct)⟩
theorem Fo {α : Type} {C : List α → Prop} {us : List α} (hl : us.length = 4) (h : ∀ x0 x1 x2 x3, C [x0, x1, x2, x3]) : C us := match us, hl with | [_, _, _, _], _ => h _ _ _ _
theorem df4 {K : PySem.W.Frag} {h : Heap} {mg : Str → Option Value} {n p0 p1 p2 p3 : Str} {st : Stmt} {f : Addr} {fd : FuncData} (X : K.In h) (G : h.Ns mainGlobals mg) (d : FI K n st f fd) (b : ∀ (kV doc pm : Value) (an : Option Addr) (cdv ct : Value) (x0 x1 x2 x3 : Value), bindArgs (PySem.W.fnOf n n (defArgs st) (defBody st) (defScope st) .none kV doc pm an cdv ct) ⟨[x0, x1, x2, x3], []⟩ = pure (List.zip [p0, p1, p2, p3] [x0, x1, x2, x3])) : Df K mg n st [p0, p1, p2, p3] f fd := ⟨d.F, d.F.binds (ps := [p0, p1, p2, p3]) fun kV doc pm an cdv ct us hl => Fo (C := fun us => bindArgs _ ⟨us, []⟩ = pure (List.zip ([p0, p1, p2, p3] : List Str) us)) hl (b kV doc pm an cdv ct), PySem.W.mg_of X G d.a⟩
theorem Fz {α : Type} {C : List α → Prop} {us : List α} (hl : us.length = 5) (h : ∀ x0 x1 x2 x3 x4, C [x0, x1, x2, x3, x4]) : C us := match us, hl with | [_, _, _, _, _], _ => h _ _ _ _ _
theorem df5 {K : PySem.W.Frag} {h : Heap} {mg : Str → Option Value} {n p0 p1 p2 p3 p4 : Str} {st : Stmt} {f : Addr} {fd : FuncData} (X : K.In h) (G : h.Ns mainGlobals mg) (d : FI K n st f fd) (b : ∀ (kV doc pm : Value) (an : Option Addr) (cdv ct : Value) (x0 x1 x2 x3 x4 : Value), bindArgs (PySem.W.fnOf n n (defArgs st) (defBody st) (defScope st) .none kV doc pm an cdv ct) ⟨[x0, x1, x2, x3, x4], []⟩ = pure (List.zip [p0, p1, p2, p3, p4] [x0, x1, x2, x3, x4])) : Df K mg n st [p0, p1, p2, p3, p4] f fd := ⟨d.F, d.F.binds (ps := [p0, p1, p2, p3, p4]) fun kV doc pm an cdv ct us hl => Fz (C := fun us => bindArgs _ ⟨us, []⟩ = pure (List.zip ([p0, p1, p2, p3, p4] : List Str) us)) hl (b kV doc pm an cdv ct), PySem.W.mg_of X G d.a⟩
set_option genInjectivity false in
set_option genSizeOf false in
structure Ad where
 tc_heap_look : Addr
 tP_heap_look : Addr
 tc_law_look : Addr
 tP_law_look : Addr
 f_wall : Addr
 fd_wall : FuncData
 f_packed : Addr
 fd_packed : FuncData
 f_check_row : Addr
 fd_check_row : FuncData
 f_block_of : Addr
 fd_block_of : FuncData
 f_bit_in : Addr
 fd_bit_in : FuncData
 f_bits_of : Addr
 fd_bits_of : FuncData
 f_ones_in : Addr
 fd_ones_in : FuncData
 f_one_in : Addr
 fd_one_in : FuncData
 f_nets_of : Addr
 fd_nets_of : FuncData
 f_low_in : Addr
 fd_low_in : FuncData
 f_first_low_in : Addr
 fd_first_low_in : FuncData
 f_last_low_in : Addr
 fd_last_low_in : FuncData
 f_heap_of : Addr
 fd_heap_of : FuncData
 f_size_of : Addr
 fd_size_of : FuncData
 f_lesser_of : Addr
 fd_lesser_of : FuncData
 f_first_at_most : Addr
 fd_first_at_most : FuncData
 f_last_at_most : Addr
 fd_last_at_most : FuncData
 f_place_beneath : Addr
 fd_place_beneath : FuncData
 f_check_stretch : Addr
 fd_check_stretch : FuncData
 f_cover : Addr
 fd_cover : FuncData
 f_kept_row : Addr
 fd_kept_row : FuncData
 f_ahead_of : Addr
 fd_ahead_of : FuncData
 f_check_place : Addr
 fd_check_place : FuncData
 f_bit_at : Addr
 fd_bit_at : FuncData
 f_ones_at : Addr
 fd_ones_at : FuncData
 f_one_place : Addr
 fd_one_place : FuncData
 f_check_nth : Addr
 fd_check_nth : FuncData
 f_last_no_greater : Addr
 fd_last_no_greater : FuncData
 f_is_tree : Addr
 fd_is_tree : FuncData
 f_check_brackets : Addr
 fd_check_brackets : FuncData
 f_kept_brackets : Addr
 fd_kept_brackets : FuncData
 f_low_of : Addr
 fd_low_of : FuncData
 f_base_of : Addr
 fd_base_of : FuncData
 f_start_within : Addr
 fd_start_within : FuncData
 f_end_within : Addr
 fd_end_within : FuncData
 f_block_count : Addr
 fd_block_count : FuncData
 f_heap_look : Addr
 fd_heap_look : FuncData
 f_height : Addr
 fd_height : FuncData
 f_low_behind : Addr
 fd_low_behind : FuncData
 f_first_within : Addr
 fd_first_within : FuncData
 f_place_of_bit : Addr
 fd_place_of_bit : FuncData
 f_low_ahead : Addr
 fd_low_ahead : FuncData
 f_last_low_upto : Addr
 fd_last_low_upto : FuncData
 f_last_within : Addr
 fd_last_within : FuncData
 f_check_bracket : Addr
 fd_check_bracket : FuncData
 f_closing : Addr
 fd_closing : FuncData
 f_opening : Addr
 fd_opening : FuncData
 f_node_count : Addr
 fd_node_count : FuncData
 f_check_node : Addr
 fd_check_node : FuncData
 f_node_at : Addr
 fd_node_at : FuncData
 f_place_of : Addr
 fd_place_of : FuncData
 f_Hand_init : Addr
 fd_Hand_init : FuncData
 f_Hand_node : Addr
 fd_Hand_node : FuncData
 f_Hand_is_opening : Addr
 fd_Hand_is_opening : FuncData
 f_Hand_told : Addr
 fd_Hand_told : FuncData
 f_Hand_step : Addr
 fd_Hand_step : FuncData
 f_Hand_step_back : Addr
 fd_Hand_step_back : FuncData
 f_Hand_turn : Addr
 fd_Hand_turn : FuncData
 f_Hand_to_node : Addr
 fd_Hand_to_node : FuncData
 f_check_depths : Addr
 fd_check_depths : FuncData
 f_brackets_of : Addr
 fd_brackets_of : FuncData
 f_kept_tree : Addr
 fd_kept_tree : FuncData
 f_law_depths : Addr
 fd_law_depths : FuncData
 f_law_brackets : Addr
 fd_law_brackets : FuncData
 f_law_look : Addr
 fd_law_look : FuncData
 f_law_there : Addr
 fd_law_there : FuncData
 f_law_refused : Addr
 fd_law_refused : FuncData
 f_law_done : Addr
 fd_law_done : FuncData
 f_law_stand : Addr
 fd_law_stand : FuncData
 f_law : Addr
 fd_law : FuncData
 t_BLOCK_BITS : Tok
 t_MOST_BITS : Tok
 t_MOST_NODES : Tok
 t_MOST_NUMBERS : Tok
 c_Hand : Addr
 c_NoBit : Addr
 c_NoNode : Addr
 c_NoOctets : Addr
 c_NoPlace : Addr
 c_NoSign : Addr
 c_NoTree : Addr
 c_NoWord : Addr
 c_TooMany : Addr
 c_Twice : Addr
 c_WoodError : Addr
structure Tx (K : PySem.W.Frag) (mg : Str → Option Value) (a : Ad) : Prop where
 D_wall : Df K mg "_wall" zr ["k"] a.f_wall a.fd_wall
 D_packed : Df K mg "packed" pB ["bits"] a.f_packed a.fd_packed
 D_check_row : Df K mg "check_row" jm ["bits"] a.f_check_row a.fd_check_row
 D_block_of : Df K mg "block_of" kY ["bits"] a.f_block_of a.fd_block_of
 D_bit_in : Df K mg "bit_in" pI ["block", "k"] a.f_bit_in a.fd_bit_in
 D_bits_of : Df K mg "bits_of" mQ ["block", "upto"] a.f_bits_of a.fd_bits_of
 D_ones_in : Df K mg "ones_in" mV ["block", "upto"] a.f_ones_in a.fd_ones_in
 D_one_in : Df K mg "one_in" qm ["block", "nth"] a.f_one_in a.fd_one_in
 D_nets_of : Df K mg "nets_of" nQ ["block", "upto"] a.f_nets_of a.fd_nets_of
 D_low_in : Df K mg "low_in" pO ["block", "upto"] a.f_low_in a.fd_low_in
 D_first_low_in : Df K mg "first_low_in" fW ["block", "start", "stop", "goal"] a.f_first_low_in a.fd_first_low_in
 D_last_low_in : Df K mg "last_low_in" gQ ["block", "start", "stop", "goal"] a.f_last_low_in a.fd_last_low_in
 D_heap_of : Df K mg "heap_of" mz ["numbers"] a.f_heap_of a.fd_heap_of
 D_size_of : Df K mg "size_of" mL ["many"] a.f_size_of a.fd_size_of
 D_lesser_of : Df K mg "lesser_of" jH ["one", "other"] a.f_lesser_of a.fd_lesser_of
 D_first_at_most : Df K mg "first_at_most" eO ["many", "look", "start", "goal"] a.f_first_at_most a.fd_first_at_most
 D_last_at_most : Df K mg "last_at_most" gq ["many", "look", "stop", "goal"] a.f_last_at_most a.fd_last_at_most
 D_place_beneath : Df K mg "place_beneath" eY ["size", "look", "node", "goal", "side"] a.f_place_beneath a.fd_place_beneath
 D_check_stretch : Df K mg "check_stretch" eZ ["many", "start", "stop"] a.f_check_stretch a.fd_check_stretch
 D_cover : Df K mg "cover" ul ["many", "start", "stop"] a.f_cover a.fd_cover
 D_kept_row : Df K mg "kept_row" kZ ["bits"] a.f_kept_row a.fd_kept_row
 D_ahead_of : Df K mg "ahead_of" kJ ["blocks"] a.f_ahead_of a.fd_ahead_of
 D_check_place : Df K mg "check_place" gO ["at", "most"] a.f_check_place a.fd_check_place
 D_bit_at : Df K mg "bit_at" pZ ["tables", "look", "at"] a.f_bit_at a.fd_bit_at
 D_ones_at : Df K mg "ones_at" nq ["tables", "look", "at"] a.f_ones_at a.fd_ones_at
 D_one_place : Df K mg "one_place" jG ["tables", "look", "nth"] a.f_one_place a.fd_one_place
 D_check_nth : Df K mg "check_nth" jq ["nth", "many"] a.f_check_nth a.fd_check_nth
 D_last_no_greater : Df K mg "last_no_greater" dm ["numbers", "goal"] a.f_last_no_greater a.fd_last_no_greater
 D_is_tree : Df K mg "is_tree" mO ["bits"] a.f_is_tree a.fd_is_tree
 D_check_brackets : Df K mg "check_brackets" dI ["bits"] a.f_check_brackets a.fd_check_brackets
 D_kept_brackets : Df K mg "kept_brackets" eG ["bits"] a.f_kept_brackets a.fd_kept_brackets
 D_low_of : Df K mg "low_of" p6 ["tables", "number", "block"] a.f_low_of a.fd_low_of
 D_base_of : Df K mg "base_of" nO ["tables", "number"] a.f_base_of a.fd_base_of
 D_start_within : Df K mg "start_within" fY ["number", "at"] a.f_start_within a.fd_start_within
 D_end_within : Df K mg "end_within" iD ["number", "upto"] a.f_end_within a.fd_end_within
 D_block_count : Df K mg "block_count" gK ["tables"] a.f_block_count a.fd_block_count
 D_heap_look : Df K mg "heap_look" b7 ["tables"] a.f_heap_look a.fd_heap_look
 D_height : Df K mg "height" qj ["tables", "look", "at"] a.f_height a.fd_height
 D_low_behind : Df K mg "low_behind" iM ["tables", "look", "at", "goal"] a.f_low_behind a.fd_low_behind
 D_first_within : Df K mg "first_within" gw ["tables", "look", "number", "at", "goal"] a.f_first_within a.fd_first_within
 D_place_of_bit : Df K mg "place_of_bit" fU ["number", "within"] a.f_place_of_bit a.fd_place_of_bit
 D_low_ahead : Df K mg "low_ahead" jK ["tables", "look", "at", "goal"] a.f_low_ahead a.fd_low_ahead
 D_last_low_upto : Df K mg "last_low_upto" eV ["tables", "look", "upto", "goal"] a.f_last_low_upto a.fd_last_low_upto
 D_last_within : Df K mg "last_within" gH ["tables", "look", "number", "upto", "goal"] a.f_last_within a.fd_last_within
 D_check_bracket : Df K mg "check_bracket" dZ ["tables", "look", "at", "bit"] a.f_check_bracket a.fd_check_bracket
 D_closing : Df K mg "closing" m5 ["tables", "look", "at"] a.f_closing a.fd_closing
 D_opening : Df K mg "opening" mD ["tables", "look", "at"] a.f_opening a.fd_opening
 D_node_count : Df K mg "node_count" iJ ["tables"] a.f_node_count a.fd_node_count
 D_check_node : Df K mg "check_node" iZ ["tables", "node"] a.f_check_node a.fd_check_node
 D_node_at : Df K mg "node_at" nH ["tables", "look", "at"] a.f_node_at a.fd_node_at
 D_place_of : Df K mg "place_of" kI ["tables", "look", "node"] a.f_place_of a.fd_place_of
 D_Hand_init : Dm K "__init__" "Hand.__init__" jJ ["self", "tables", "look"] a.f_Hand_init a.fd_Hand_init
 D_Hand_node : Dm K "node" "Hand.node" jL ["self"] a.f_Hand_node a.fd_Hand_node
 D_Hand_is_opening : Dm K "is_opening" "Hand.is_opening" dq ["self"] a.f_Hand_is_opening a.fd_Hand_is_opening
 D_Hand_told : Dm K "told" "Hand.told" jF ["self"] a.f_Hand_told a.fd_Hand_told
 D_Hand_step : Dm K "step" "Hand.step" jy ["self"] a.f_Hand_step a.fd_Hand_step
 D_Hand_step_back : Dm K "step_back" "Hand.step_back" dH ["self"] a.f_Hand_step_back a.fd_Hand_step_back
 D_Hand_turn : Dm K "turn" "Hand.turn" ju ["self"] a.f_Hand_turn a.fd_Hand_turn
 D_Hand_to_node : Dm K "to_node" "Hand.to_node" gf ["self", "node"] a.f_Hand_to_node a.fd_Hand_to_node
 D_check_depths : Df K mg "check_depths" fZ ["depths"] a.f_check_depths a.fd_check_depths
 D_brackets_of : Df K mg "brackets_of" gP ["depths"] a.f_brackets_of a.fd_brackets_of
 D_kept_tree : Df K mg "kept_tree" jE ["depths"] a.f_kept_tree a.fd_kept_tree
 D_law_depths : Df K mg "_law_depths" iK ["_law_cells", "_law_most"] a.f_law_depths a.fd_law_depths
 D_law_brackets : Df K mg "_law_brackets" gj ["_law_depths_here"] a.f_law_brackets a.fd_law_brackets
 D_law_look : Df K mg "_law_look" cB ["_law_blocks", "_law_seen"] a.f_law_look a.fd_law_look
 D_law_there : Df K mg "_law_there" jD ["_law_seen", "_law_size"] a.f_law_there a.fd_law_there
 D_law_refused : Df K mg "_law_refused" gG ["_law_hand", "_law_node"] a.f_law_refused a.fd_law_refused
 D_law_done : Df K mg "_law_done" j8 ["_law_hand", "_law_row", "_law_spot", "_law_number", "_law_far"] a.f_law_done a.fd_law_done
 D_law_stand : Df K mg "_law_stand" jn ["_law_hand", "_law_first"] a.f_law_stand a.fd_law_stand
 D_law : Df K mg "law" Ab ["_law_script"] a.f_law a.fd_law
 b_ValueError : mg "ValueError" = none
 b_bool : mg "bool" = none
 b_enumerate : mg "enumerate" = none
 b_int : mg "int" = none
 b_isinstance : mg "isinstance" = none
 b_len : mg "len" = none
 b_list : mg "list" = none
 b_max : mg "max" = none
 b_min : mg "min" = none
 b_range : mg "range" = none
 b_reversed : mg "reversed" = none
 b_sum : mg "sum" = none
 b_tuple : mg "tuple" = none
 b_zip : mg "zip" = none
 c_BLOCK_BITS : mg "BLOCK_BITS" = some (.int 32 a.t_BLOCK_BITS)
 c_MOST_BITS : mg "MOST_BITS" = some (.int 4096 a.t_MOST_BITS)
 c_MOST_NODES : mg "MOST_NODES" = some (.int 2048 a.t_MOST_NODES)
 c_MOST_NUMBERS : mg "MOST_NUMBERS" = some (.int 4096 a.t_MOST_NUMBERS)
 g_Hand : mg "Hand" = some (.ref a.c_Hand)
 g_NoBit : mg "NoBit" = some (.ref a.c_NoBit)
 g_NoNode : mg "NoNode" = some (.ref a.c_NoNode)
 g_NoOctets : mg "NoOctets" = some (.ref a.c_NoOctets)
 g_NoPlace : mg "NoPlace" = some (.ref a.c_NoPlace)
 g_NoSign : mg "NoSign" = some (.ref a.c_NoSign)
 g_NoTree : mg "NoTree" = some (.ref a.c_NoTree)
 g_NoWord : mg "NoWord" = some (.ref a.c_NoWord)
 g_TooMany : mg "TooMany" = some (.ref a.c_TooMany)
 g_Twice : mg "Twice" = some (.ref a.c_Twice)
 g_WoodError : mg "WoodError" = some (.ref a.c_WoodError)
 x_NoNode : Exc K mg "NoNode" a.c_NoNode
 k_NoNode : qJ K a.c_NoNode
 i_NoNode_Hand : PySem.W.kitOne K (.ref a.c_NoNode) (.ref a.c_Hand) = some false
 i_NoNode_NoBit : PySem.W.kitOne K (.ref a.c_NoNode) (.ref a.c_NoBit) = some false
 i_NoNode_NoNode : PySem.W.kitOne K (.ref a.c_NoNode) (.ref a.c_NoNode) = some true
 i_NoNode_NoOctets : PySem.W.kitOne K (.ref a.c_NoNode) (.ref a.c_NoOctets) = some false
 i_NoNode_NoPlace : PySem.W.kitOne K (.ref a.c_NoNode) (.ref a.c_NoPlace) = some false
 i_NoNode_NoSign : PySem.W.kitOne K (.ref a.c_NoNode) (.ref a.c_NoSign) = some false
 i_NoNode_NoTree : PySem.W.kitOne K (.ref a.c_NoNode) (.ref a.c_NoTree) = some false
 i_NoNode_NoWord : PySem.W.kitOne K (.ref a.c_NoNode) (.ref a.c_NoWord) = some false
 i_NoNode_TooMany : PySem.W.kitOne K (.ref a.c_NoNode) (.ref a.c_TooMany) = some false
 i_NoNode_Twice : PySem.W.kitOne K (.ref a.c_NoNode) (.ref a.c_Twice) = some false
 i_NoNode_WoodError : PySem.W.kitOne K (.ref a.c_NoNode) (.ref a.c_WoodError) = some true
 i_NoNode_ValueError : PySem.W.kitOne K (.ref a.c_NoNode) (.type "ValueError") = some true
 cl_Hand : Cls K a.c_Hand
 na_Hand_look : iG K a.c_Hand "look"
 na_Hand_place : iG K a.c_Hand "place"
 na_Hand_tables : iG K a.c_Hand "tables"
 M_Hand_is_opening : Meth K a.c_Hand "is_opening" a.f_Hand_is_opening
 M_Hand_node : Meth K a.c_Hand "node" a.f_Hand_node
 M_Hand_step : Meth K a.c_Hand "step" a.f_Hand_step
 M_Hand_step_back : Meth K a.c_Hand "step_back" a.f_Hand_step_back
 M_Hand_to_node : Meth K a.c_Hand "to_node" a.f_Hand_to_node
 M_Hand_told : Meth K a.c_Hand "told" a.f_Hand_told
 M_Hand_turn : Meth K a.c_Hand "turn" a.f_Hand_turn
 mk_Hand : Mk K a.c_Hand a.f_Hand_init
 w_heap_look : a.fd_heap_look.code = .ref a.tc_heap_look
 w_law_look : a.fd_law_look.code = .ref a.tc_law_look
structure Bs (mg : Str → Option Value) (base : Heap) (a : Ad) : Prop where
 bm : BMain mg base
 C_heap_look : PySem.W.CodeHd base a.tc_heap_look a.tP_heap_look
 C_law_look : PySem.W.CodeHd base a.tc_law_look a.tP_law_look
 N_heap_look_law_look : a.tP_heap_look ≠ a.tP_law_look
theorem qW : bootBuiltins "ValueError" = some (.type "ValueError") := by decide +kernel
theorem c7 {K : PySem.W.Frag} {t c : Value} {r : List Value} (h : PySem.W.kitOne K t c = some false) : PySem.W.kitAny K t (c :: r) = PySem.W.kitAny K t r := by
 simp only [PySem.W.kitAny, h]
theorem je.out {H : Hp} {f b : Addr} {c : qD} {cs : List Addr} {fvs : List V} {xs : List V} (h : je H f c cs fvs) (e : H b = some (.lst xs)) : b ∉ cs := fun z => by
 obtain ⟨i, hi⟩ := List.getElem?_of_mem z
 obtain ⟨co, v, u, _, e2, _⟩ := h.cells i b hi
 rw [e] at e2
 cases e2
theorem TabAt.same {H H' : Hp} {P : Addr} {pos : Pos} {q : Str} (h : TabAt H P pos q) (s : aQ H H') : TabAt H' P pos q := by
 obtain ⟨ps, h1, h2, h3⟩ := h
 refine ⟨ps, s _ _ h1, h2, ?_⟩
 rcases h3 with h3 | ⟨cd, oc, vs, t, h4, h5, h6⟩
 ·exact .inl h3
 ·exact .inr ⟨cd, oc, vs, t, h4, s _ _ h5, h6⟩
def fj (P : Addr) (H H' : Hp) : Prop := ∀ b o, H b = some o → b ≠ P → H' b = some o
theorem fj.trans {P : Addr} {H H1 H2 : Hp} (s : fj P H H1) (s2 : fj P H1 H2) : fj P H H2 := fun b o e n => s2 b o (s b o e n) n
theorem TabAt.ex {H : Hp} {P : Addr} {pos : Pos} {q : Str} (h : TabAt H P pos q) : ∃ o, H P = some o := by
 obtain ⟨ps, h1, _⟩ := h
 exact ⟨_, h1⟩
theorem TabAt.ne {H : Hp} {P b : Addr} {pos : Pos} {q : Str} {o : HO} (h : TabAt H P pos q) (e : H b = some o) (n : ∀ ps, o ≠ .tbl ps) : b ≠ P := fun z => by
 obtain ⟨ps, h1, _⟩ := h
 rw [z, h1] at e
 cases e
 exact n _ rfl
theorem TabAt.upd {H : Hp} {P x : Addr} {pos : Pos} {q : Str} {xs ys : List V} (h : TabAt H P pos q) (e : H x = some (.lst xs)) : TabAt (L2.upd H x (.lst ys)) P pos q := by
 obtain ⟨ps, h1, h2, h3⟩ := h
 have ne : ∀ b o, H b = some o → (∀ zs, o ≠ .lst zs) → L2.upd H x (.lst ys) b = some o := fun b o e2 n => by
  rw [aC (fun z => by rw [z, e] at e2; cases e2; exact n _ rfl)]
  exact e2
 refine ⟨ps, ne _ _ h1 nofun, h2, ?_⟩
 rcases h3 with h3 | ⟨cd, oc, vs, t, h4, h5, h6⟩
 ·exact .inl h3
 ·exact .inr ⟨cd, oc, vs, t, h4, ne _ _ h5 nofun, h6⟩
theorem fj.free {P : Addr} {H H1 : Hp} (s : fj P H H1) {l : Addr} (hP : ∃ o, H1 P = some o) (h : H1 l = none) : H l = none := by
 cases e : H l with
 | none => rfl
 | some o =>
  by_cases z : l = P
  ·obtain ⟨o, ho⟩ := hP
   rw [z, ho] at h
   cases h
  ·rw [s l o e z] at h
   cases h
theorem Br {n j : Nat} (h : j < n) : ixN n (j : Int) = some j := by
 unfold ixN
 simp
 omega
theorem xV (k : Nat) (v : Int) : (List.replicate k [V.int v]).flatten = (List.replicate k v).map V.int := by
 induction k with
 | zero => rfl
 | succ k ih => rw [List.replicate_succ, List.flatten_cons, ih, List.replicate_succ]; rfl
def dB (H : Hp) (f sn nd : Addr) : Prop := ∃ cs, je H f cQ cs [.ref sn, .ref nd]
theorem dB.fn {H : Hp} {f sn nd : Addr} (h : dB H f sn nd) : ∃ o fd, H f = some (aM f o) ∧ o.data = .func fd := by
 obtain ⟨cs, ca⟩ := h
 obtain ⟨cd, doc, pm, ctv, oc, vs, t, h1, _⟩ := ca.ex
 exact ⟨_, _, h1, rfl⟩
theorem dB.same {H H' : Hp} {f sn nd : Addr} (h : dB H f sn nd) (s : aQ H H') : dB H' f sn nd := by
 obtain ⟨cs, ca⟩ := h
 exact ⟨cs, ca.same fun b o e => s _ _ e⟩
theorem dB.upd {H : Hp} {f sn nd b : Addr} {xs ys : List V} (h : dB H f sn nd) (e : H b = some (.lst xs)) : dB (L2.upd H b (.lst ys)) f sn nd := by
 obtain ⟨cs, ca⟩ := h
 refine ⟨cs, ca.same fun c o e2 => ?_⟩
 rw [aC (fun z => by rw [z, e] at e2; cases e2)]
 exact e2
structure Asks (H : Hp) (f sn nd : Addr) (ss : List Int) (xs : List V) : Prop where
 look : dB H f sn nd
 seen : H sn = some (.lst (ss.map V.int))
 nodes : H nd = some (.lst xs)
 ne : sn ≠ nd
 few : ss.length ≤ 1000
theorem Asks.same {H H' : Hp} {f sn nd : Addr} {ss : List Int} {xs : List V} (h : Asks H f sn nd ss xs) (s : aQ H H') : Asks H' f sn nd ss xs := ⟨h.look.same s, s _ _ h.seen, s _ _ h.nodes, h.ne, h.few⟩
theorem Asks.more {H : Hp} {f sn nd : Addr} {ss tt : List Int} {xs : List V} (h : Asks H f sn nd ss xs) (hl : tt.length ≤ 1000) : Asks (L2.upd H sn (.lst (tt.map V.int))) f sn nd tt xs :=
 ⟨h.look.upd h.seen, ak, by rw [aC h.ne.symm]; exact h.nodes, h.ne, hl⟩
section
variable {P : Program} {w : World} {K : PySem.W.Frag} {mg : Str → Option Value} {base : Heap} {a : Ad}
theorem zz (x : Int) : Builtin.bitAnd x 1 = x % 2 := by
 unfold Builtin.bitAnd
 by_cases hx : 0 ≤ x
 ·simp [hx]
  omega
 ·simp [hx]
  unfold Builtin.bitNot
  omega
def yQ : Sp := fun vs H Q _ => ∃ (b k : Int), vs = [.int b, .int k] ∧ 0 ≤ k ∧ Q (.int (bit b k.toNat)) H
theorem rn (T : Tx K mg a) : aW P w K mg base CX0 1 a.f_bit_in a.fd_bit_in ["block", "k"] yQ := by
 refine T.D_bit_in.F.ok zq (fun vs H Q E h => ?_) (fun cdv A outer s H vs Q E hr h => ?_)
 ·obtain ⟨b, k, rfl, _⟩ := h
  rfl
 obtain ⟨b, k, rfl, h0, q⟩ := h
 refine ⟨_, (au (aH (aD Ek (aD DR (pv 0) (pv 1)) aq))), ?_⟩
 refine ⟨_, rfl, _, rfl, _, _, rfl, rfl, h0, _, _, rfl, rfl, ?_⟩
 have e : Builtin.bitAnd (b / 2 ^ k.toNat) 1 = bit b k.toNat := zz _
 show Q (.int (Builtin.bitAnd (b / 2 ^ k.toNat) 1)) H
 rw [e]
 exact q
def wG : Sp := fun vs H Q _ => ∃ (b n : Int), vs = [.int b, .int n] ∧ 0 ≤ n ∧ n ≤ 32 ∧ ∀ r, H r = none → Q (.ref r) (upd H r (.lst ((bits b n.toNat).map V.int)))
theorem kE (T : Tx K mg a) : aW P w K mg base CX0 2 a.f_bits_of a.fd_bits_of ["block", "upto"] wG := by
 refine T.D_bits_of.F.ok xg (fun vs H Q E h => ?_) (fun cdv A outer s H vs Q E hr h => ?_)
 ·obtain ⟨b, n, rfl, _⟩ := h
  rfl
 obtain ⟨b, n, rfl, h0, h1, q⟩ := h
 refine ⟨_, (au (aH (xO rfl (dM.one (j := 0) rfl (Or.inl rfl) rfl rfl (Or.inl rfl)) (jP rfl T.b_range (aa (pv 1) ao)) (fun _ _ _ _ => sr) (fun _ _ _ _ => (aK T.D_bit_in (rn T) (by decide) hr aJ rfl (aa (pv 1) (aa (pv 0) ao))))))), ?_⟩
 refine ⟨_, rfl, n, rfl, by omega, by omega, ?_⟩
 refine yw (fun j => bit b j) (by rw [sizeLine_eq]; omega) (fun _ _ _ q => q) (fun j H' Q hj sm q => ⟨_, rfl, _, rfl, _, _, rfl, by omega, ?_⟩) fun D hD => q D hD
 rw [show ((0 : Int) + (j : Int)).toNat = j from by omega]
 exact q
def wN : Sp := fun vs H Q _ => ∃ (b n : Int), vs = [.int b, .int n] ∧ 0 ≤ n ∧ n ≤ 32 ∧ ∀ H', aQ H H' → Q (.int (ones b n.toNat)) H'
theorem qy (T : Tx K mg a) : aW P w K mg base CX0 3 a.f_ones_in a.fd_ones_in ["block", "upto"] wN := by
 refine T.D_ones_in.F.ok wX (fun vs H Q E h => ?_) (fun cdv A outer s H vs Q E hr h => ?_)
 ·obtain ⟨b, n, rfl, _⟩ := h
  rfl
 obtain ⟨b, n, rfl, h0, h1, q⟩ := h
 refine ⟨_, (au (aH (aV (zJ rfl) rfl T.b_sum Tw.Do (aa (aK T.D_bits_of (kE T) (by decide) hr aJ rfl (aa (pv 0) (aa (pv 1) ao))) ao)))), ?_⟩
 exact ⟨_, rfl, _, rfl, b, n, rfl, h0, h1, fun r hr' => ⟨r, bits b n.toNat, rfl, SqL.of ak, q _ (aA hr' _)⟩⟩
def yt : Sp := fun vs H Q _ => ∃ (b t : Int), vs = [.int b, .int t] ∧ (∀ H', aQ H H' → ∀ k : Nat, k < 32 → bit b k = 1 → ones b k = t → Q (.int (k : Int)) H') ∧
 ∀ H', aQ H H' → (∀ k : Nat, k < 32 → ¬ (bit b k = 1 ∧ ones b k = t)) → Q .non H'
theorem yW (T : Tx K mg a) : aW P w K mg base CX0 3 a.f_one_in a.fd_one_in ["block", "nth"] yt := by
 refine T.D_one_in.F.ok ir (fun vs H Q E h => ?_) (fun cdv A outer s H vs Q E hr h => ?_)
 ·obtain ⟨b, n, rfl, _⟩ := h
  rfl
 obtain ⟨b, t, rfl, q1, q2⟩ := h
 refine ⟨_, (aj (aG (i := 2) ir.nd rfl (Or.inl rfl) aq)
  (aj (cC PassesOwn.never rfl (rY rfl T.b_enumerate (aa (aK T.D_bits_of (kE T) (by decide) hr aJ rfl (aa (pv 0) (aa (bc (v := .int 32) rfl T.c_BLOCK_BITS ⟨_, rfl⟩) ao))) ao)) (mU rfl (cF (bh (i := 3) ir.nd rfl (Or.inl rfl)) (cF (bh (i := 4) ir.nd rfl (Or.inl rfl)) jU))) (aj (aZ (PW.pt (lg (aL fP (pv 4) aq (aN _)) (jV (aL fP (pv 2) (pv 1) (aN _))))) (au (aH (pv 3))) aO)
  (au (aG (i := 2) ir.nd rfl (Or.inl rfl) (aD bF (pv 2) (pv 4))))))
  (au (aH fc)))), ?_⟩
 refine ⟨_, rfl, b, 32, rfl, by decide, by decide, fun r hr' => ⟨r, _, rfl, SqL.of ak, ?_⟩⟩
 refine uQ (xs := (bits b 32).map V.int) (fun i σ H' => (∃ k bt, σ = [some (.int b), some (.int t), some (.int (ones b i)), k, bt]) ∧ aQ (upd H r (.lst ((bits b 32).map V.int))) H' ∧ ∀ j : Nat, j < i → ¬ (bit b j = 1 ∧ ones b j = t)) ?_ ?_ ?_ ?_
 ·exact ⟨⟨none, none, rfl⟩, aQ.refl _, fun j hj => absurd hj (Nat.not_lt_zero _)⟩
 ·rintro i σ H' hi ⟨_, sm, _⟩
  exact SqL.of (sm _ _ ak)
 ·rintro i x σ H' p hx ⟨⟨k, bt, rfl⟩, sm, no⟩ hp
  have hi : i < 32 := by
   have := (List.getElem?_eq_some_iff.mp hx).1
   rw [List.length_map, dX] at this
   exact this
  have ex : x = .int (bit b i) := by
   rw [List.getElem?_map, pP hi] at hx
   exact (Option.some.inj hx).symm
  subst ex
  have sm' : aQ (upd H r (.lst ((bits b 32).map V.int))) (upd H' p (.tup [.int (i : Int), .int (bit b i)])) := sm.trans (aA hp _)
  have smH := (aA hr' (.lst ((bits b 32).map V.int))).trans sm'
  have next : (∀ j : Nat, j < i + 1 → ¬ (bit b j = 1 ∧ ones b j = t)) ↔ ¬ (bit b i = 1 ∧ ones b i = t) := by
   refine ⟨fun h => h i (Nat.lt_succ_self _), fun h j hj => ?_⟩
   rcases Nat.lt_or_ge j i with l | l
   ·exact no j l
   ·have : j = i := by omega
    subst this
    exact h
  have go : ¬ (bit b i = 1 ∧ ones b i = t) → (∃ k bt, [some (V.int b), some (V.int t), some (V.int (ones b i + bit b i)), some (V.int (i : Int)), some (V.int (bit b i))] = [some (.int b), some (.int t), some (.int (ones b (i + 1))), k, bt]) ∧
    aQ (upd H r (.lst ((bits b 32).map V.int))) (upd H' p (.tup [.int (i : Int), .int (bit b i)])) ∧ ∀ j : Nat, j < i + 1 → ¬ (bit b j = 1 ∧ ones b j = t) := fun h =>
   ⟨⟨_, _, by rw [jR]⟩, sm', next.mpr h⟩
  refine ⟨p, _, rfl, SqT.of ak, rfl, _, _, rfl, _, _, rfl, rfl, ?_⟩
  refine ⟨_, rfl, rfl, _, rfl, ?_⟩
  refine bW (fun c => ?_) (fun c => ?_)
  ·have c1 : V.int (bit b i) = V.int 1 := of_decide_eq_true c
   refine ⟨_, rfl, _, rfl, rfl, _, rfl, ?_⟩
   refine bW (fun d => ?_) (fun d => ?_)
   ·have d1 : V.int (ones b i) = V.int t := of_decide_eq_true d
    exact ⟨_, rfl, q1 _ smH i hi (V.int.inj c1) (V.int.inj d1)⟩
   ·have d1 : ¬ V.int (ones b i) = V.int t := fun z => d (decide_eq_true z)
    exact ⟨_, rfl, _, rfl, _, _, rfl, rfl, go fun z => d1 (congrArg V.int z.2)⟩
  ·have c1 : ¬ V.int (bit b i) = V.int 1 := fun z => c (decide_eq_true z)
   exact bw ⟨_, rfl, _, rfl, _, _, rfl, rfl, go fun z => c1 (congrArg V.int z.1)⟩
 ·rintro σ H' ⟨_, sm, no⟩
  refine q2 _ ((aA hr' _).trans sm) fun k hk => no k ?_
  rw [List.length_map, dX]
  exact hk
def uo (K : PySem.W.Frag) : Sp := fun vs H Q _ => ∃ (p : Addr) (ns : List Int), vs = [.ref p] ∧ SqL K H p (ns.map V.int) ∧ Q (.int (blk ns)) H
theorem uv (T : Tx K mg a) : aW P w K mg base CX0 1 a.f_block_of a.fd_block_of ["bits"] (uo K) := by
 refine T.D_block_of.F.ok gD (fun vs H Q E h => ?_) (fun cdv A outer s H vs Q E hr h => ?_)
 ·obtain ⟨p, ns, rfl, _⟩ := h
  rfl
 obtain ⟨p, ns, rfl, hS, q⟩ := h
 refine ⟨_, (aj (aG (i := 1) gD.nd rfl (Or.inl rfl) aq)
  (aj (cC PassesOwn.never rfl (zx rfl T.b_reversed (aa (pv 0) ao) Tw.jt) (bh (i := 2) gD.nd rfl (Or.inl rfl)) (au (aG (i := 1) gD.nd rfl (Or.inl rfl) (aD bF (aD cI aq (pv 1)) (pv 2)))))
  (au (aH (pv 1))))), ?_⟩
 refine ⟨_, rfl, p, _, rfl, hS, ?_⟩
 refine xK (xs := ns.map V.int) (fun i σ H' => (∃ k, σ = [some (.ref p), some (.int (blk (ns.drop (ns.length - i)))), k]) ∧ H' = H) ?_ ?_ ?_ ?_
 ·refine ⟨⟨none, ?_⟩, rfl⟩
  rw [Nat.sub_zero, List.drop_length]
  rfl
 ·rintro i σ H' _ ⟨_, rfl⟩
  exact hS
 ·rintro i x σ H' hi hx ⟨⟨k, rfl⟩, rfl⟩
  obtain ⟨c, hc, rfl⟩ := int_at hx
  rw [List.length_map] at hi hc
  refine ⟨_, rfl, _, _, rfl, rfl, .inl ⟨by decide, by decide⟩, _, rfl, _, _, rfl, rfl, ⟨some (.int c), ?_⟩, rfl⟩
  have e : ns.drop (ns.length - (i + 1)) = c :: ns.drop (ns.length - i) := by
   have e1 : ns.length - (i + 1) = ns.length - 1 - i := by omega
   have e2 : ns.length - i = ns.length - 1 - i + 1 := by omega
   rw [e1, e2, List.drop_eq_getElem_cons (by omega)]
   congr 1
   have := List.getElem?_eq_some_iff.mp hc
   exact this.2
  rw [e]
  rfl
 ·rintro σ H' ⟨⟨k, rfl⟩, rfl⟩
  rw [List.length_map, Nat.sub_self, List.drop_zero]
  exact ⟨_, rfl, q⟩
def rQ (K : PySem.W.Frag) : Sp := fun vs H Q _ => ∃ (p : Addr) (ns : List Int), vs = [.ref p] ∧ SqL K H p (ns.map V.int) ∧ ns.length ≤ 4096 ∧ aU ns ∧ Q .non H
theorem lV (T : Tx K mg a) : aW P w K mg base CX0 1 a.f_check_row a.fd_check_row ["bits"] (rQ K) := by
 refine T.D_check_row.F.ok lG (fun vs H Q E h => ?_) (fun cdv A outer s H vs Q E hr h => ?_)
 ·obtain ⟨p, ns, rfl, _⟩ := h
  rfl
 obtain ⟨p, ns, rfl, hS, hl, hb, q⟩ := h
 refine ⟨_, (aj (aZ (aL ig (aV aP rfl T.b_len Tw.cu (aa (pv 0) ao)) (bc (v := .int 4096) rfl T.c_MOST_BITS ⟨_, rfl⟩) (aN _)) (au cN) aO)
  (au (cC PassesOwn.never rfl (fJ (pv 0)) (bh (i := 1) lG.nd rfl (Or.inl rfl)) (au (aZ (PW.pt (lg (aL xX (pv 1) aq (aN _)) (jV (aL xX (pv 1) aq (aN _))))) (au cN) aO))))), ?_⟩
 refine ⟨_, rfl, p, _, rfl, .inl hS, _, _, rfl, rfl, _, rfl, bW (fun c => ?_) fun _ => ?_⟩
 ·have c := of_decide_eq_true c
  rw [List.length_map] at c
  omega
 refine ⟨_, rfl, p, rfl, ⟨_, hS⟩, ?_⟩
 refine cL (xs := ns.map V.int) (fun i σ H' => (∃ k, σ = [some (.ref p), k]) ∧ H' = H) ⟨⟨none, rfl⟩, rfl⟩ ?_ ?_ ?_
 ·rintro i σ H' _ ⟨_, rfl⟩
  exact hS
 ·rintro i x σ H' hx ⟨⟨k, rfl⟩, rfl⟩
  obtain ⟨c, hc, rfl⟩ := int_at hx
  rcases hb c (List.mem_of_getElem? hc) with rfl | rfl
  ·exact ⟨_, rfl, rfl, _, rfl, uF rfl (bw ⟨⟨_, rfl⟩, rfl⟩)⟩
  ·refine ⟨_, rfl, rfl, _, rfl, bW (fun _ => ⟨_, rfl, rfl, _, rfl, uF rfl ⟨⟨_, rfl⟩, rfl⟩⟩) fun z => absurd ?_ z⟩
   decide
 ·rintro σ H' ⟨_, rfl⟩
  exact q
def yV (K : PySem.W.Frag) : Sp := fun vs H Q _ => ∃ (p : Addr) (ns : List Int), vs = [.ref p] ∧ SqL K H p (ns.map V.int) ∧ ns.length ≤ 4096 ∧ aU ns ∧ ∀ r H', H r = none → aQ H H' → H' r = some (.lst ((dw ns).map V.int)) → Q (.ref r) H'
theorem zc (T : Tx K mg a) : aW P w K mg base CX0 2 a.f_packed a.fd_packed ["bits"] (yV K) := by
 refine T.D_packed.F.ok zf (fun vs H Q E h => ?_) (fun cdv A outer s H vs Q E hr h => ?_)
 ·obtain ⟨p, ns, rfl, _⟩ := h
  rfl
 obtain ⟨p, ns, rfl, hS, hl, hb, q⟩ := h
 refine ⟨_, (aj (bj (aK T.D_check_row (lV T) (by decide) hr aJ rfl (aa (pv 0) ao)))
  (au (aH (xO rfl (dM.one (j := 0) rfl (Or.inl rfl) rfl rfl (Or.inl rfl)) (yp rfl T.b_range (aa aq (aa (aV aP rfl T.b_len Tw.cu (aa (pv 0) ao)) (aa (bc (v := .int 32) rfl T.c_BLOCK_BITS ⟨_, rfl⟩) ao)))) (fun _ _ _ _ => sr) (fun _ _ _ _ => (aK T.D_block_of (uv T) (by decide) hr aJ rfl (aa (ie (show SlR _ (Ff K) from jQ) (pv 1) (iB (pv 0)) (iB (aD bF (pv 0) (bc (v := .int 32) rfl T.c_BLOCK_BITS ⟨_, rfl⟩)))) ao))))))), ?_⟩
 refine ⟨_, rfl, p, ns, rfl, hS, hl, hb, ?_⟩
 refine ⟨_, rfl, p, _, rfl, .inl hS, (ns.map V.int).length, rfl, ?_, ?_⟩
 ·rw [List.length_map]
  exact Nat.lt_of_le_of_lt hl (by decide)
 rw [List.length_map]
 intro D hD
 refine ⟨fun i m ys H1 => m = many ns.length - i ∧ i ≤ many ns.length ∧ ys = ((List.range i).map (bU ns)).map V.int ∧ aQ H H1 ∧ H1 D = some (.lst ys), ⟨_, rfl, Nat.zero_le _, rfl, aA hD _, ak⟩, ?_⟩
 rintro i m ys H1 ⟨rfl, hi, rfl, sm, hD1⟩
 by_cases hlt : i < many ns.length
 ·refine .inr ⟨hlt, fun v H2 y => ?_⟩
  obtain ⟨rfl, rfl⟩ := y
  unfold Az
  refine gR ?_
  refine ⟨_, rfl, _, rfl, _, rfl, _, rfl, _, _, rfl, rfl, _, rfl, p, _, rfl, sm.seq hS, fun p2 hp2 => ?_⟩
  have e1 : (0 : Int) + (i : Int) * 32 = ((32 * i : Nat) : Int) := by omega
  have e2 : (0 : Int) + (i : Int) * 32 + 32 = ((32 * i + 32 : Nat) : Int) := by omega
  rw [e1, show ((32 * i : Nat) : Int) + 32 = ((32 * i + 32 : Nat) : Int) from by omega, Bh, Nat.add_sub_cancel_left]
  refine ⟨p2, _, rfl, SqL.of ak, ?_⟩
  have ne : D ≠ p2 := aB hD1 hp2
  refine ⟨by rw [aC ne]; exact hD1, ?_, many ns.length - (i + 1), by omega, rfl, hlt, ?_, bN (sm.trans (aA hp2 _)) hD _, ak⟩
  ·rw [List.length_map, List.length_map, List.length_range]
   unfold many at hlt
   exact small (by omega)
  ·rw [List.range_succ, List.map_append, List.map_append]
   rfl
 ·have e : i = many ns.length := by omega
  subst e
  exact .inl ⟨Nat.le_refl _, q D H1 hD sm hD1⟩
def uC (K : PySem.W.Frag) : Sp := fun vs H Q _ => ∃ (p : Addr) (bs : List Int), vs = [.ref p] ∧ SqL K H p (bs.map V.int) ∧ bs.length ≤ 4096 ∧ ∀ r H', H r = none → aQ H H' → H' r = some (.tup ((eQ bs bs.length).map V.int)) → Q (.ref r) H'
theorem uA (T : Tx K mg a) : aW P w K mg base CX0 4 a.f_ahead_of a.fd_ahead_of ["blocks"] (uC K) := by
 refine T.D_ahead_of.F.ok jA (fun vs H Q E h => ?_) (fun cdv A outer s H vs Q E hr h => ?_)
 ·obtain ⟨p, bs, rfl, _⟩ := h
  rfl
 obtain ⟨p, bs, rfl, hS, hl, q⟩ := h
 refine ⟨_, (aj (aG (i := 1) jA.nd rfl (Or.inl rfl) (bO (aa aq ao)))
  (aj (cC PassesOwn.never rfl (fJ (pv 0)) (bh (i := 2) jA.nd rfl (Or.inl rfl)) (au (bj (fO PySem.F.plainAttrs_list PySem.F.slot_list_append PySem.F.type_list_append bV (pv 1) (aa (aD bF (aR aX (pv 1) (my iH aq) (fun _ _ => rfl)) (aK T.D_ones_in (qy T) (by decide) hr aJ rfl (aa (pv 2) (aa (bc (v := .int 32) rfl T.c_BLOCK_BITS ⟨_, rfl⟩) ao)))) ao)))))
  (au (aH (gU jZ rfl T.b_tuple Tw.vd (aa (pv 1) ao)))))), ?_⟩
 refine ⟨(by show 1 ≤ sizeLine; decide), fun r hr' => ?_⟩
 refine ⟨_, rfl, p, rfl, ⟨_, (aA hr' _).seq hS⟩, ?_⟩
 refine cL (xs := bs.map V.int) (fun i σ H' => (∃ k, σ = [some (.ref p), some (.ref r), k]) ∧ aQ H H' ∧ H' r = some (.lst ((eQ bs i).map V.int))) ?_ ?_ ?_ ?_
 ·exact ⟨⟨none, rfl⟩, aA hr' _, ak⟩
 ·rintro i σ H' _ ⟨_, sm, _⟩
  exact sm.seq hS
 ·rintro i x σ H' hx ⟨⟨k, rfl⟩, sm, hr1⟩
  obtain ⟨b, hb, rfl⟩ := int_at hx
  have hi := (List.getElem?_eq_some_iff.mp hb).1
  have hla : atI ((eQ bs i).map V.int) (-1) = some (.int (gM bs i)) := by
   rw [vh, List.map_append]
   exact pM _ _
  refine ⟨_, rfl, .inl ⟨rfl, _, SqL.of hr1⟩, _, rfl, _, rfl, r, _, _, _, rfl, rfl, SqL.of hr1, hla, _, rfl, b, 32, rfl, by decide, by decide, fun H2 sm2 => ⟨_, _, rfl, rfl, r, _, _, rfl, rfl, sm2 _ _ hr1, ?_, ⟨_, rfl⟩, bN (sm.trans sm2) hr' _, ?_⟩⟩
  ·rw [List.length_map, qX]
   exact small (by omega)
  ·rw [ak, uG, List.map_append, nW hb]
   rfl
 ·rintro σ H' ⟨⟨k, rfl⟩, sm, hr1⟩
  rw [List.length_map] at hr1
  exact ⟨_, rfl, r, _, rfl, .inl ⟨SqL.of hr1, fun l hl => q l _ (sm.free hl) (sm.trans (aA hl _)) ak⟩⟩
def wO : Sp := fun vs H Q _ => ∃ (b n : Int), vs = [.int b, .int n] ∧ 0 ≤ n ∧ n ≤ 32 ∧ ∀ r H', H r = none → aQ H H' → H' r = some (.lst ((nets b n.toNat).map V.int)) → Q (.ref r) H'
theorem lq (T : Tx K mg a) : aW P w K mg base CX0 3 a.f_nets_of a.fd_nets_of ["block", "upto"] wO := by
 refine T.D_nets_of.F.ok fM (fun vs H Q E h => ?_) (fun cdv A outer s H vs Q E hr h => ?_)
 ·obtain ⟨b, n, rfl, _⟩ := h
  rfl
 obtain ⟨b, n, rfl, h0, h1, q⟩ := h
 refine ⟨_, (aj (aG (i := 2) fM.nd rfl (Or.inl rfl) (bO ao))
  (aj (aG (i := 3) fM.nd rfl (Or.inl rfl) aq)
  (aj (cC PassesOwn.never rfl (fJ (aK T.D_bits_of (kE T) (by decide) hr aJ rfl (aa (pv 0) (aa (pv 1) ao)))) (bh (i := 4) fM.nd rfl (Or.inl rfl)) (aj (aG (i := 3) fM.nd rfl (Or.inl rfl) (aD bG (aD bF (pv 3) (aD cI aq (pv 4))) aq))
  (au (bj (fO PySem.F.plainAttrs_list PySem.F.slot_list_append PySem.F.type_list_append bV (pv 2) (aa (pv 3) ao))))))
  (au (aH (pv 2)))))), ?_⟩
 refine ⟨(by show 0 ≤ sizeLine; decide), fun r hr' => ?_⟩
 refine ⟨_, rfl, _, rfl, b, n, rfl, h0, h1, fun p hp => ⟨p, rfl, ⟨_, SqL.of ak⟩, ?_⟩⟩
 have ne : r ≠ p := aB ak hp
 refine cL (xs := (bits b n.toNat).map V.int) (fun i σ H' => (∃ k, σ = [some (.int b), some (.int n), some (.ref r), some (.int (net b i)), k]) ∧ aQ H H' ∧ H' r = some (.lst ((nets b i).map V.int)) ∧ H' p = some (.lst ((bits b n.toNat).map V.int))) ?_ ?_ ?_ ?_
 ·refine ⟨⟨none, by rw [Am]; rfl⟩, (aA hr' _).trans (aA hp _), ?_, ak⟩
  rw [aC ne, ak]
  rfl
 ·rintro i σ H' _ ⟨_, _, _, hp'⟩
  exact SqL.of hp'
 ·rintro i x σ H' hx ⟨⟨k, rfl⟩, sm, hr1, hp1⟩
  obtain ⟨c, hc, rfl⟩ := int_at hx
  have hi : i < n.toNat := by
   have := (List.getElem?_eq_some_iff.mp hc).1
   rw [dX] at this
   exact this
  have ec : c = bit b i := by
   rw [pP hi] at hc
   exact (Option.some.inj hc).symm
  subst ec
  refine ⟨_, rfl, _, rfl, _, _, rfl, rfl, .inl ⟨by decide, by decide⟩, _, _, rfl, rfl, _, _, rfl, rfl, ?_⟩
  refine ⟨_, rfl, .inl ⟨rfl, _, SqL.of hr1⟩, _, rfl, r, _, _, rfl, rfl, hr1, ?_, ?_⟩
  ·rw [List.length_map, dg]
   exact small (by omega)
  ·refine ⟨⟨some (.int (bit b i)), by rw [uH]; rfl⟩, bN sm hr' _, ?_, ?_⟩
   ·rw [ak, yl, uH, List.map_append]
    rfl
   ·rw [aC (Ne.symm ne)]
    exact hp1
 ·rintro σ H' ⟨⟨k, rfl⟩, sm, hr1, hp1⟩
  rw [List.length_map, dX] at hr1
  exact ⟨_, rfl, q r H' hr' sm hr1⟩
def ym : Sp := fun vs H Q _ => ∃ (b n : Int), vs = [.int b, .int n] ∧ 1 ≤ n ∧ n ≤ 32 ∧ ∀ M H', Ai M (nets b n.toNat) → aQ H H' → Q (.int M) H'
theorem yI (T : Tx K mg a) : aW P w K mg base CX0 4 a.f_low_in a.fd_low_in ["block", "upto"] ym := by
 refine T.D_low_in.F.ok yx (fun vs H Q E h => ?_) (fun cdv A outer s H vs Q E hr h => ?_)
 ·obtain ⟨b, n, rfl, _⟩ := h
  rfl
 obtain ⟨b, n, rfl, h0, h1, q⟩ := h
 refine ⟨_, (au (aH (Cj rfl rfl T.b_min (aa (aK T.D_nets_of (lq T) (by decide) hr aJ rfl (aa (pv 0) (aa (pv 1) ao))) ao) aq Tw.vV))), ?_⟩
 refine ⟨_, rfl, _, rfl, b, n, rfl, by omega, h1, fun p H' hp sm h' => ⟨p, _, rfl, SqL.of h', ?_, fun M hM => q M H' hM sm⟩⟩
 rw [dg]
 omega
def oM : Sp := fun vs H Q _ => ∃ (b : Int) (st sp : Nat) (g : Int), vs = [.int b, .int (st : Int), .int (sp : Int), .int g] ∧ sp ≤ 32 ∧
 (∀ H' (k : Nat), aQ H H' → Due b st sp g k → (∀ j, Due b st sp g j → k ≤ j) → Q (.int (k : Int)) H') ∧ ∀ H', aQ H H' → (∀ k, ¬ Due b st sp g k) → Q .non H'
theorem oG (T : Tx K mg a) : aW P w K mg base CX0 4 a.f_first_low_in a.fd_first_low_in ["block", "start", "stop", "goal"] oM := by
 refine T.D_first_low_in.F.ok eF (fun vs H Q E h => ?_) (fun cdv A outer s H vs Q E hr h => ?_)
 ·obtain ⟨b, st, sp, g, rfl, _⟩ := h
  rfl
 obtain ⟨b, st, sp, g, rfl, hsp, q1, q2⟩ := h
 refine ⟨_, (aj (cC PassesOwn.never rfl (vo rfl T.b_enumerate (aa (aK T.D_nets_of (lq T) (by decide) hr aJ rfl (aa (pv 0) (aa (pv 2) ao))) ao) aq) (mU rfl (cF (bh (i := 4) eF.nd rfl (Or.inl rfl)) (cF (bh (i := 5) eF.nd rfl (Or.inl rfl)) jU))) (au (aZ (PW.pt (lg (aL ig (pv 4) (pv 1) (aN _)) (jV (aL jc (pv 5) (pv 3) (aN _))))) (au (aH (pv 4))) aO)))
  (au (aH fc))), ?_⟩
 refine ⟨_, rfl, _, rfl, b, (sp : Int), rfl, by omega, by omega, fun r H1 hr1 sm1 h1 => ?_⟩
 rw [Int.toNat_natCast] at h1
 refine ⟨r, _, rfl, rfl, SqL.of h1, ?_⟩
 refine rB (xs := (nets b sp).map V.int) (fun i σ H' => (∃ k n, σ = [some (.int b), some (.int (st : Int)), some (.int (sp : Int)), some (.int g), k, n]) ∧ aQ H1 H' ∧ ∀ j, j ≤ i → ¬ Due b st sp g j) ?_ ?_ ?_ ?_
 ·exact ⟨⟨none, none, rfl⟩, aQ.refl _, fun j hj d => by have := d.1; omega⟩
 ·rintro i σ H' _ ⟨_, sm, _⟩
  exact SqL.of (sm _ _ h1)
 ·rintro i x σ H' p hx ⟨⟨k, n, rfl⟩, sm, no⟩ hp
  obtain ⟨c, hc, rfl⟩ := int_at hx
  have hi : i < sp := by
   have := (List.getElem?_eq_some_iff.mp hc).1
   rw [dg] at this
   exact this
  have ec : c = net b (i + 1) := by
   rw [vg hi] at hc
   exact (Option.some.inj hc).symm
  subst ec
  have sm' : aQ H1 (upd H' p (.tup [.int ((i + 1 : Nat) : Int), .int (net b (i + 1))])) := sm.trans (aA hp _)
  have go : ¬ Due b st sp g (i + 1) → ∀ j, j ≤ i + 1 → ¬ Due b st sp g j := fun h j hj => by
   rcases Nat.lt_or_ge i j with l | l
   ·have : j = i + 1 := by omega
    subst this
    exact h
   ·exact no j l
  refine ⟨p, _, rfl, SqT.of ak, rfl, _, _, rfl, _, _, rfl, rfl, ?_⟩
  refine ⟨_, rfl, _, rfl, _, _, rfl, rfl, _, rfl, bW (fun c1 => ?_) fun c1 => ?_⟩
  ·have c1 := of_decide_eq_true c1
   refine ⟨_, rfl, _, rfl, _, _, rfl, rfl, _, rfl, bW (fun c2 => ?_) fun c2 => ?_⟩
   ·have c2 := of_decide_eq_true c2
    exact ⟨_, rfl, q1 _ (i + 1) (sm1.trans sm') ⟨by omega, by omega, c2⟩ fun j d => by
     rcases Nat.lt_or_ge i j with l | l
     ·exact l
     ·exact absurd d (no j l)⟩
   ·have c2 : ¬ net b (i + 1) ≤ g := fun z => c2 (decide_eq_true z)
    exact ⟨⟨_, _, rfl⟩, sm', go fun d => c2 d.2.2⟩
  ·have c1 : ¬ (st : Int) < ((i + 1 : Nat) : Int) := fun z => c1 (decide_eq_true z)
   exact bw ⟨⟨_, _, rfl⟩, sm', go fun d => by have := d.1; omega⟩
 ·rintro σ H' ⟨_, sm, no⟩
  refine q2 _ (sm1.trans sm) fun k d => no k ?_ d
  rw [List.length_map, dg]
  exact d.2.1
def pF : Sp := fun vs H Q _ => ∃ (b : Int) (st sp : Nat) (g : Int), vs = [.int b, .int (st : Int), .int (sp : Int), .int g] ∧ sp ≤ 32 ∧
 (∀ H' (k : Nat), aQ H H' → Due b st sp g k → (∀ j, Due b st sp g j → j ≤ k) → Q (.int (k : Int)) H') ∧ ∀ H', aQ H H' → (∀ k, ¬ Due b st sp g k) → Q .non H'
theorem pY (T : Tx K mg a) : aW P w K mg base CX0 4 a.f_last_low_in a.fd_last_low_in ["block", "start", "stop", "goal"] pF := by
 refine T.D_last_low_in.F.ok cO (fun vs H Q E h => ?_) (fun cdv A outer s H vs Q E hr h => ?_)
 ·obtain ⟨b, st, sp, g, rfl, _⟩ := h
  rfl
 obtain ⟨b, st, sp, g, rfl, hsp, q1, q2⟩ := h
 refine ⟨_, (aj (aG (i := 4) cO.nd rfl (Or.inl rfl) fc)
  (aj (cC PassesOwn.never rfl (vo rfl T.b_enumerate (aa (aK T.D_nets_of (lq T) (by decide) hr aJ rfl (aa (pv 0) (aa (pv 2) ao))) ao) aq) (mU rfl (cF (bh (i := 5) cO.nd rfl (Or.inl rfl)) (cF (bh (i := 6) cO.nd rfl (Or.inl rfl)) jU))) (au (aZ (PW.pt (lg (aL ig (pv 5) (pv 1) (aN _)) (jV (aL jc (pv 6) (pv 3) (aN _))))) (au (aG (i := 4) cO.nd rfl (Or.inl rfl) (pv 5))) aO)))
  (au (aH (pv 4))))), ?_⟩
 refine ⟨_, rfl, _, rfl, b, (sp : Int), rfl, by omega, by omega, fun r H1 hr1 sm1 h1 => ?_⟩
 rw [Int.toNat_natCast] at h1
 refine ⟨r, _, rfl, rfl, SqL.of h1, ?_⟩
 refine rB (xs := (nets b sp).map V.int) (fun i σ H' => ∃ f, (∃ k n, σ = [some (.int b), some (.int (st : Int)), some (.int (sp : Int)), some (.int g), some f, k, n]) ∧ aQ H1 H' ∧
  ((f = .non ∧ ∀ j, j ≤ i → ¬ Due b st sp g j) ∨ ∃ k : Nat, f = .int (k : Int) ∧ k ≤ i ∧ Due b st sp g k ∧ ∀ j, j ≤ i → Due b st sp g j → j ≤ k)) ?_ ?_ ?_ ?_
 ·exact ⟨.non, ⟨none, none, rfl⟩, aQ.refl _, .inl ⟨rfl, fun j hj d => by have := d.1; omega⟩⟩
 ·rintro i σ H' _ ⟨_, _, sm, _⟩
  exact SqL.of (sm _ _ h1)
 ·rintro i x σ H' p hx ⟨f, ⟨k, n, rfl⟩, sm, hf⟩ hp
  obtain ⟨c, hc, rfl⟩ := int_at hx
  have hi : i < sp := by
   have := (List.getElem?_eq_some_iff.mp hc).1
   rw [dg] at this
   exact this
  have ec : c = net b (i + 1) := by
   rw [vg hi] at hc
   exact (Option.some.inj hc).symm
  subst ec
  have sm' : aQ H1 (upd H' p (.tup [.int ((i + 1 : Nat) : Int), .int (net b (i + 1))])) := sm.trans (aA hp _)
  have old : ¬ Due b st sp g (i + 1) → (f = .non ∧ ∀ j, j ≤ i + 1 → ¬ Due b st sp g j) ∨ ∃ k : Nat, f = .int (k : Int) ∧ k ≤ i + 1 ∧ Due b st sp g k ∧ ∀ j, j ≤ i + 1 → Due b st sp g j → j ≤ k := fun h => by
   rcases hf with ⟨e, no⟩ | ⟨k, e, k1, d, mx⟩
   ·refine .inl ⟨e, fun j hj => ?_⟩
    rcases Nat.lt_or_ge i j with l | l
    ·have : j = i + 1 := by omega
     subst this
     exact h
    ·exact no j l
   ·refine .inr ⟨k, e, by omega, d, fun j hj dj => ?_⟩
    rcases Nat.lt_or_ge i j with l | l
    ·have : j = i + 1 := by omega
     subst this
     exact absurd dj h
    ·exact mx j l dj
  refine ⟨p, _, rfl, SqT.of ak, rfl, _, _, rfl, _, _, rfl, rfl, ?_⟩
  refine ⟨_, rfl, _, rfl, _, _, rfl, rfl, _, rfl, bW (fun c1 => ?_) fun c1 => ?_⟩
  ·have c1 := of_decide_eq_true c1
   refine ⟨_, rfl, _, rfl, _, _, rfl, rfl, _, rfl, bW (fun c2 => ?_) fun c2 => ?_⟩
   ·have c2 := of_decide_eq_true c2
    exact ⟨_, rfl, _, ⟨_, _, rfl⟩, sm', .inr ⟨i + 1, rfl, Nat.le_refl _, ⟨by omega, by omega, c2⟩, fun j hj _ => hj⟩⟩
   ·have c2 : ¬ net b (i + 1) ≤ g := fun z => c2 (decide_eq_true z)
    exact ⟨f, ⟨_, _, rfl⟩, sm', old fun d => c2 d.2.2⟩
  ·have c1 : ¬ (st : Int) < ((i + 1 : Nat) : Int) := fun z => c1 (decide_eq_true z)
   exact bw ⟨f, ⟨_, _, rfl⟩, sm', old fun d => by have := d.1; omega⟩
 ·rintro σ H' ⟨f, ⟨k, n, rfl⟩, sm, hf⟩
  rw [List.length_map, dg] at hf
  refine ⟨_, rfl, ?_⟩
  rcases hf with ⟨rfl, no⟩ | ⟨k, rfl, k1, d, mx⟩
  ·exact q2 _ (sm1.trans sm) fun k d => no k d.2.1 d
  ·exact q1 _ k (sm1.trans sm) d fun j dj => mx j dj.2.1 dj
def v8 : Sp := fun vs H Q _ => ∃ n : Nat, vs = [.int (n : Int)] ∧ n ≤ 100000 ∧ ∀ S, ji n S → Q (.int (S : Int)) H
theorem iU (T : Tx K mg a) : aW P w K mg base CX0 1 a.f_size_of a.fd_size_of ["many"] v8 := by
 refine T.D_size_of.F.ok j4 (fun vs H Q E h => ?_) (fun cdv A outer s H vs Q E hr h => ?_)
 ·obtain ⟨n, rfl, _⟩ := h
  rfl
 obtain ⟨n, rfl, hn, q⟩ := h
 refine ⟨_, (aj (aG (i := 1) j4.nd rfl (Or.inl rfl) aq)
  (aj (il PassesOwn.never (aL jd (pv 1) (pv 0) (aN _)) (au (aG (i := 1) j4.nd rfl (Or.inl rfl) (aD cI aq (pv 1)))))
  (au (aH (pv 1))))), ?_⟩
 refine ⟨fun m σ H' => ∃ h : Nat, σ = [some (.int (n : Int)), some (.int ((2 ^ h : Nat) : Int))] ∧ H' = H ∧ m = n - 2 ^ h ∧ ∀ j, j < h → 2 ^ j < n, ⟨_, 0, rfl, rfl, rfl, fun j hj => absurd hj (Nat.not_lt_zero _)⟩, ?_⟩
 rintro m σ H' ⟨h, rfl, rfl, rfl, hj⟩
 refine ⟨_, rfl, _, rfl, _, _, rfl, rfl, _, rfl, bW (fun c => ?_) fun c => ?_⟩
 ·have c : ((2 ^ h : Nat) : Int) < (n : Int) := of_decide_eq_true c
  have hp : 0 < 2 ^ h := Nat.two_pow_pos h
  refine ⟨_, fun σ' H2 z => z, _, rfl, _, _, rfl, rfl, .inl ⟨by decide, by decide⟩, n - 2 ^ (h + 1), by rw [Nat.pow_succ]; omega, h + 1, ?_, rfl, rfl, fun j hj2 => ?_⟩
  ·have e : (2 : Int) * ((2 ^ h : Nat) : Int) = ((2 ^ (h + 1) : Nat) : Int) := by rw [Nat.pow_succ]; omega
   rw [← e]
   rfl
  ·rcases Nat.lt_or_ge j h with l | l
   ·exact hj j l
   ·have : j = h := by omega
    subst this
    omega
 ·have c : ¬ ((2 ^ h : Nat) : Int) < (n : Int) := fun z => c (decide_eq_true z)
  exact ⟨_, rfl, q (2 ^ h) ⟨h, rfl, by omega, hj⟩⟩
abbrev nats (l : List Nat) : List V := l.map fun n : Nat => V.int (n : Int)
def mH : Sp := fun vs H Q _ => ∃ n st sp : Nat, vs = [.int (n : Int), .int (st : Int), .int (sp : Int)] ∧ st ≤ sp ∧ sp ≤ n ∧ Q .non H
theorem mX (T : Tx K mg a) : aW P w K mg base CX0 1 a.f_check_stretch a.fd_check_stretch ["many", "start", "stop"] mH := by
 refine T.D_check_stretch.F.ok nF (fun vs H Q E h => ?_) (fun cdv A outer s H vs Q E hr h => ?_)
 ·obtain ⟨n, st, sp, rfl, _⟩ := h
  rfl
 obtain ⟨n, st, sp, rfl, h1, h2, q⟩ := h
 refine ⟨_, (au (aZ (qg (zb jc jc jc aq (pv 1) (pv 2) (pv 0))) (au cN) aO)), ?_⟩
 refine ⟨_, rfl, _, _, rfl, rfl, _, rfl, bW (fun _ => ?_) fun z => absurd (decide_eq_true (show (0 : Int) ≤ (st : Int) from by omega)) z⟩
 refine ⟨_, rfl, _, _, rfl, rfl, _, rfl, bW (fun _ => ?_) fun z => absurd (decide_eq_true (show (st : Int) ≤ (sp : Int) from by omega)) z⟩
 refine ⟨_, rfl, _, _, rfl, rfl, _, rfl, ?_⟩
 rw [decide_eq_true (show (sp : Int) ≤ (n : Int) from by omega)]
 exact bw q
def zF : Sp := fun vs H Q _ => ∃ many st sp : Nat, vs = [.int (many : Int), .int (st : Int), .int (sp : Int)] ∧ st ≤ sp ∧ sp ≤ many ∧ many ≤ 4096 ∧ ∀ S r H', ji many S → H r = none → aQ H H' → H' r = some (.lst (nats (cover S st sp))) → Q (.ref r) H'
theorem vC (T : Tx K mg a) : aW P w K mg base CX0 2 a.f_cover a.fd_cover ["many", "start", "stop"] zF := by
 refine T.D_cover.F.ok cV (fun vs H Q E h => ?_) (fun cdv A outer s H vs Q E hr h => ?_)
 ·obtain ⟨n, st, sp, rfl, _⟩ := h
  rfl
 obtain ⟨n, st, sp, rfl, h1, h2, h3, q⟩ := h
 refine ⟨_, (aj (bj (aK T.D_check_stretch (mX T) (by decide) hr aJ rfl (aa (pv 0) (aa (pv 1) (aa (pv 2) ao)))))
  (aj (aG (i := 3) cV.nd rfl (Or.inl rfl) (aK T.D_size_of (iU T) (by decide) hr aJ rfl (aa (pv 0) ao)))
  (aj (aG (i := 4) cV.nd rfl (Or.inl rfl) (aD bF (pv 3) (pv 1)))
  (aj (aG (i := 5) cV.nd rfl (Or.inl rfl) (aD bF (pv 3) (pv 2)))
  (aj (aG (i := 6) cV.nd rfl (Or.inl rfl) (bO ao))
  (aj (aG (i := 7) cV.nd rfl (Or.inl rfl) (bO ao))
  (aj (il PassesOwn.never (aL jd (pv 4) (pv 5) (aN _)) (aj (aZ (aL fP (aD bQ (pv 4) aq) aq (aN _)) (aj (bj (fO PySem.F.plainAttrs_list PySem.F.slot_list_append PySem.F.type_list_append bV (pv 6) (aa (pv 4) ao)))
  (au (aG (i := 4) cV.nd rfl (Or.inl rfl) (aD bF (pv 4) aq)))) aO)
  (aj (aZ (aL fP (aD bQ (pv 5) aq) aq (aN _)) (aj (aG (i := 5) cV.nd rfl (Or.inl rfl) (aD bG (pv 5) aq))
  (au (bj (fO PySem.F.plainAttrs_list PySem.F.slot_list_append PySem.F.type_list_append bV (pv 7) (aa (pv 5) ao))))) aO)
  (aj (aG (i := 4) cV.nd rfl (Or.inl rfl) (aD bM (pv 4) aq))
  (au (aG (i := 5) cV.nd rfl (Or.inl rfl) (aD bM (pv 5) aq)))))))
  (au (aH (aD tW (pv 6) (wj rfl rfl T.b_list Tw.ph rfl T.b_reversed Tw.jt (aa (pv 7) ao)))))))))))), ?_⟩
 refine ⟨_, rfl, _, rfl, _, rfl, n, st, sp, rfl, h1, h2, ?_⟩
 refine ⟨_, rfl, n, rfl, by omega, fun S hS => ?_⟩
 refine ⟨_, rfl, _, rfl, _, _, rfl, rfl, ?_⟩
 refine ⟨_, rfl, _, rfl, _, _, rfl, rfl, ?_⟩
 refine ⟨(by show 0 ≤ sizeLine; decide), fun lf hlf => ?_⟩
 refine ⟨(by show 0 ≤ sizeLine; decide), fun rg hrg => ?_⟩
 have nlr : lf ≠ rg := aB ak hrg
 have hrg0 := (aA hlf (.lst [])).free hrg
 have smA := (aA hlf (.lst [])).trans (aA hrg (.lst []))
 have hS4 := hS.le h3
 refine ⟨fun m σ H' => ∃ (low high f : Nat) (ls rs : List Nat), σ = [some (.int (n : Int)), some (.int (st : Int)), some (.int (sp : Int)), some (.int (S : Int)), some (.int (low : Int)), some (.int (high : Int)), some (.ref lf), some (.ref rg)] ∧ m = high - low ∧ aQ H H' ∧ H' lf = some (.lst (nats ls)) ∧ H' rg = some (.lst (nats rs)) ∧ high - low ≤ f ∧ uq f low high ls rs = cover S st sp ∧ ls.length + rs.length + 2 * f ≤ 20000,
  ⟨_, S + st, S + sp, sp - st, [], [], rfl, rfl, smA, by rw [aC nlr, ak]; rfl, ak, by omega, rfl, by simp; omega⟩, ?_⟩
 rintro m σ H' ⟨low, high, f, ls, rs, rfl, rfl, sm, hl, hrr, hf, hw, hz⟩
 refine ⟨_, rfl, _, rfl, _, _, rfl, rfl, _, rfl, bW (fun c => ?_) fun c => ?_⟩
 ·have c : (low : Int) < (high : Int) := of_decide_eq_true c
  obtain ⟨f, rfl⟩ : ∃ g, f = g + 1 := ⟨f - 1, by omega⟩
  unfold uq at hw
  rw [if_pos (by omega)] at hw
  refine ⟨_, fun σ' H2 z => z, ?_⟩
  refine ⟨_, rfl, _, _, rfl, rfl, (by show (0 : Int) < 2; decide), rfl, _, rfl, ?_⟩
  refine xP (fun σ H2 => ∃ (ls2 : List Nat), σ = [some (.int (n : Int)), some (.int (st : Int)), some (.int (sp : Int)), some (.int (S : Int)), some (.int ((low + low % 2 : Nat) : Int)), some (.int (high : Int)), some (.ref lf), some (.ref rg)] ∧ ls2 = (if low % 2 = 1 then ls ++ [low] else ls) ∧ aQ H H2 ∧ H2 lf = some (.lst (nats ls2)) ∧ H2 rg = some (.lst (nats rs))) (fun d => ?_) ?_ (fun d m => ?_)
  ·have d : ¬ (low : Int) % 2 = 1 := fun z => d (decide_eq_true (congrArg V.int z))
   refine ⟨ls, ?_, by rw [if_neg (by omega)], sm, hl, hrr⟩
   rw [show low + low % 2 = low from by omega]
  rotate_left
  ·have d : V.int ((low : Int) % 2) = V.int 1 := of_decide_eq_true d
   injection d with d
   refine ⟨_, rfl, .inl ⟨rfl, _, SqL.of hl⟩, _, rfl, lf, _, _, rfl, rfl, hl, ?_, ?_⟩
   ·rw [List.length_map, sizeLine_eq]
    omega
   refine ⟨_, rfl, _, _, rfl, rfl, m _ _ ⟨ls ++ [low], ?_, by rw [if_pos (by omega)], bN sm hlf _, ?_, ?_⟩⟩
   ·rw [show ((low + low % 2 : Nat) : Int) = (low : Int) + 1 from by omega]
    rfl
   ·rw [ak]
    unfold nats
    rw [List.map_append]
    rfl
   ·rw [aC nlr.symm]
    exact hrr
  rintro σ2 H2 ⟨ls2, rfl, e2, sm2, hl2, hr2⟩
  refine ⟨_, rfl, _, _, rfl, rfl, (by show (0 : Int) < 2; decide), rfl, _, rfl, ?_⟩
  refine xP (fun σ H3 => ∃ (rs2 : List Nat), σ = [some (.int (n : Int)), some (.int (st : Int)), some (.int (sp : Int)), some (.int (S : Int)), some (.int ((low + low % 2 : Nat) : Int)), some (.int ((high - high % 2 : Nat) : Int)), some (.ref lf), some (.ref rg)] ∧ rs2 = (if high % 2 = 1 then rs ++ [high - 1] else rs) ∧ aQ H H3 ∧ H3 lf = some (.lst (nats ls2)) ∧ H3 rg = some (.lst (nats rs2))) (fun d => ?_) ?_ (fun d m => ?_)
  ·have d : ¬ (high : Int) % 2 = 1 := fun z => d (decide_eq_true (congrArg V.int z))
   refine ⟨rs, ?_, by rw [if_neg (by omega)], sm2, hl2, hr2⟩
   rw [show high - high % 2 = high from by omega]
  rotate_left
  ·have d : V.int ((high : Int) % 2) = V.int 1 := of_decide_eq_true d
   injection d with d
   refine ⟨_, rfl, _, _, rfl, rfl, ?_⟩
   refine ⟨_, rfl, .inl ⟨rfl, _, SqL.of hr2⟩, _, rfl, rg, _, _, rfl, rfl, hr2, ?_, m _ _ ⟨rs ++ [high - 1], ?_, by rw [if_pos (by omega)], bN sm2 hrg0 _, ?_, ?_⟩⟩
   ·rw [List.length_map, sizeLine_eq]
    omega
   ·rw [show ((high - high % 2 : Nat) : Int) = (high : Int) - 1 from by omega]
    rfl
   ·rw [aC nlr]
    exact hl2
   ·rw [ak]
    unfold nats
    rw [List.map_append]
    exact congrArg (fun v => some (HO.lst (rs.map (fun n : Nat => V.int (n : Int)) ++ [v]))) (congrArg V.int (show (high : Int) - 1 = ((high - 1 : Nat) : Int) from by omega))
  rintro σ3 H3 ⟨rs2, rfl, e3, sm3, hl3, hr3⟩
  rw [← e2, ← e3] at hw
  have z2 : ls2.length ≤ ls.length + 1 := by
   rw [e2]
   split <;> simp
  have z3 : rs2.length ≤ rs.length + 1 := by
   rw [e3]
   split <;> simp
  refine ⟨_, rfl, _, _, rfl, rfl, ⟨by decide, by decide⟩, ?_⟩
  refine ⟨_, rfl, _, _, rfl, rfl, ⟨by decide, by decide⟩, (high - high % 2) / 2 - (low + low % 2) / 2, by omega, (low + low % 2) / 2, (high - high % 2) / 2, f, ls2, rs2, ?_, rfl, sm3, hl3, hr3, by omega, hw, by omega⟩
  rw [show (((low + low % 2) / 2 : Nat) : Int) = ((low + low % 2 : Nat) : Int) / 2 from by omega, show (((high - high % 2) / 2 : Nat) : Int) = ((high - high % 2 : Nat) : Int) / 2 from by omega]
  rfl
 ·have c : ¬ (low : Int) < (high : Int) := fun z => c (decide_eq_true z)
  rw [Av (by omega)] at hw
  refine ⟨_, rfl, _, rfl, rg, _, rfl, SqL.of hrr, fun l hl2 => ?_⟩
  have s2 := aA hl2 (.lst (nats rs).reverse)
  refine ⟨lf, l, _, _, rfl, rfl, s2 _ _ hl, ak, ?_, fun r hr2 => ?_⟩
  ·rw [List.length_reverse, List.length_map, List.length_map, sizeLine_eq]
   omega
  refine q S r _ hS ((sm.trans s2).free hr2) (sm.trans (s2.trans (aA hr2 _))) ?_
  rw [ak, ← hw]
  unfold nats
  rw [List.map_append, List.map_reverse]
def zp : Sp := fun vs H Q _ => ∃ x y : V, vs = [x, y] ∧ NI x ∧ NI y ∧ Q (rJ x y) H
theorem t8 (T : Tx K mg a) : aW P w K mg base CX0 1 a.f_lesser_of a.fd_lesser_of ["one", "other"] zp := by
 refine T.D_lesser_of.F.ok tM (fun vs H Q E h => ?_) (fun cdv A outer s H vs Q E hr h => ?_)
 ·obtain ⟨x, y, rfl, _⟩ := h
  rfl
 obtain ⟨x, y, rfl, hx, hy, q⟩ := h
 refine ⟨_, (aj (aZ (jl (mW (pv 0))) (au (aH (pv 1))) aO)
  (aj (aZ (jl (mW (pv 1))) (au (aH (pv 0))) aO)
  (au (aH (aV (rG rfl) rfl T.b_min Tw.vV (aa (pv 0) (aa (pv 1) ao))))))), ?_⟩
 rcases hx with rfl | ⟨i, rfl⟩
 ·rw [qZ] at q
  exact ⟨_, rfl, _, rfl, gR ⟨_, rfl, q⟩⟩
 refine ⟨_, rfl, _, rfl, bw ?_⟩
 rcases hy with rfl | ⟨j, rfl⟩
 ·exact ⟨_, rfl, _, rfl, gR ⟨_, rfl, q⟩⟩
 exact ⟨_, rfl, _, rfl, bw ⟨_, rfl, _, rfl, i, j, rfl, q⟩⟩
def v4 (K : PySem.W.Frag) : Sp := fun vs H Q E => ∃ (p : Addr) (ns : List Int), vs = [.ref p] ∧ SqL K H p (ns.map V.int) ∧
 ns.length ≤ 4096 ∧ ∀ S r H' xs, ji ns.length S → H r = none → aQ H H' → H' r = some (.lst xs) → gA ns S 1 xs → Q (.ref r) H'
theorem wM (T : Tx K mg a) : aW P w K mg base CX0 2 a.f_heap_of a.fd_heap_of ["numbers"] (v4 K) := by
 refine T.D_heap_of.F.ok iC (fun vs H Q E h => ?_) (fun cdv A outer s H vs Q E hr h => ?_)
 ·obtain ⟨p, ns, rfl, _⟩ := h
  rfl
 obtain ⟨p, ns, rfl, hS, hl, q⟩ := h
 refine ⟨_, (aj (aZ (aL ig (aV aP rfl T.b_len Tw.cu (aa (pv 0) ao)) (bc (v := .int 4096) rfl T.c_MOST_NUMBERS ⟨_, rfl⟩) (aN _)) (au cN) aO)
  (aj (aG (i := 1) iC.nd rfl (Or.inl rfl) (aK T.D_size_of (iU T) (by decide) hr aJ rfl (aa (aV aP rfl T.b_len Tw.cu (aa (pv 0) ao)) ao)))
  (aj (aG (i := 2) iC.nd rfl (Or.inl rfl) (aD tW (aD tW (aD sZ (bO (aa fc ao)) (pv 1)) (gU iI rfl T.b_list Tw.ph (aa (pv 0) ao))) (aD sZ (bO (aa fc ao)) (aD bG (pv 1) (aV aP rfl T.b_len Tw.cu (aa (pv 0) ao))))))
  (aj (cC PassesOwn.never rfl (w5 rfl T.b_range (aa (aD bG (pv 1) aq) (aa aq (aa (my iH aq) ao)))) (bh (i := 3) iC.nd rfl (Or.inl rfl)) (au (zW (aK T.D_lesser_of (t8 T) (by decide) hr aJ rfl (aa (aR aX (pv 2) (aD cI aq (pv 3)) (fun _ _ => rfl)) (aa (aR aX (pv 2) (aD bF (aD cI aq (pv 3)) aq) (fun _ _ => rfl)) ao))) (Aq (pv 2) (pv 3) set_list))))
  (au (aH (pv 2))))))), ?_⟩
 have ern : (ns.map V.int).length = ns.length := List.length_map ..
 refine ⟨_, rfl, p, _, rfl, .inl hS, _, _, rfl, rfl, _, rfl, bW (fun z => ?_) fun _ => ?_⟩
 ·have z : (4096 : Int) < ((ns.map V.int).length : Int) := of_decide_eq_true z
  omega
 refine ⟨_, rfl, p, _, rfl, .inl hS, ns.length, ?_, by omega, fun S hSz => ?_⟩
 ·rw [ern]
  rfl
 have hS0 := hSz.pos
 have hS4 := hSz.le hl
 have hlS : ns.length ≤ S := by
  obtain ⟨_, _, z, _⟩ := hSz
  exact z
 refine xH (t := CK (tC .non) vA) (σ := [some (.ref p), some (.int (S : Int)), none, none]) (i := 1) (k := (S : Int)) (xs := [.non]) (fun Q' q => q) rfl (by omega) (by decide) (by omega) fun p1 H1 hp1 s1 x1 => ?_
 refine ⟨_, rfl, p, _, rfl, .inl (s1.seq hS), fun l2 hl2 => ?_⟩
 have s2 := aA hl2 (.lst (ns.map V.int))
 have e1 : (List.replicate (S : Int).toNat [V.non]).flatten = List.replicate S V.non := by
  rw [Int.toNat_natCast]
  simp
 rw [e1] at x1
 refine ⟨p1, l2, _, _, rfl, rfl, s2 _ _ x1, ak, ?_, fun p3 hp3 => ?_⟩
 ·rw [ern, List.length_replicate, sizeLine_eq]
  omega
 have s3 := aA hp3 (.lst (List.replicate S V.non ++ ns.map V.int))
 refine ⟨(by show 1 ≤ sizeLine; decide), fun l4 hl4 => ?_⟩
 have s4 := aA hl4 (.lst [.non])
 have s14 := s1.trans (s2.trans (s3.trans s4))
 refine ⟨_, rfl, _, rfl, p, _, rfl, .inl (s14.seq hS), _, _, rfl, rfl, l4, ((S - ns.length : Nat) : Int), [.non], rfl, ?_, ak, by omega, by omega, ?_, fun p5 hp5 => ?_⟩
 ·show V.int ((S : Int) - ((ns.map V.int).length : Int)) = _
  rw [ern]
  exact congrArg V.int (by omega)
 ·rw [sizeLine_eq]
  show 1 * _ ≤ _
  omega
 have e5 : (List.replicate ((S - ns.length : Nat) : Int).toNat [V.non]).flatten = List.replicate (S - ns.length) V.non := by
  rw [Int.toNat_natCast]
  simp
 rw [e5]
 have s5 := aA hp5 (.lst (List.replicate (S - ns.length) V.non))
 refine ⟨p3, p5, _, _, rfl, rfl, s5 _ _ (s4 _ _ ak), ak, ?_, fun r hr' => ?_⟩
 ·rw [List.length_append, ern, List.length_replicate, List.length_replicate, sizeLine_eq]
  omega
 have s15 := s14.trans s5
 have hr0 := s15.free hr'
 have s6 := s15.trans (aA hr' (.lst (List.replicate S V.non ++ ns.map V.int ++ List.replicate (S - ns.length) V.non)))
 refine ⟨_, rfl, _, _, rfl, rfl, _, rfl, S - 1, 0, ?_, by omega, by omega, ?_⟩
 ·rw [show ((S - 1 : Nat) : Int) = (S : Int) - 1 from by omega]
  rfl
 refine Aj (n := S - 1 - 0) (fun i σ H' => (∃ k3, σ = [some (.ref p), some (.int (S : Int)), some (.ref r), k3]) ∧ aQ H H' ∧ ∃ xs, H' r = some (.lst xs) ∧ gA ns S (S - i) xs) ⟨⟨none, rfl⟩, s6, _, ak, gA.start hS0 hlS⟩ ?_ ?_
 ·rintro i σ H' hi ⟨⟨k3, rfl⟩, sm, xs, hr1, hv⟩
  obtain ⟨k, rfl⟩ : ∃ k, S = k + i + 1 := ⟨S - i - 1, by omega⟩
  have ek : ((k + i + 1 - 1 : Nat) : Int) + (i : Int) * (-1) = (k : Int) := by omega
  rw [show k + i + 1 - i = k + 1 from by omega] at hv
  have hlen := hv.len
  have hx : xs[2 * k]? = some xs[2 * k] := List.getElem?_eq_getElem (by omega)
  have hy : xs[2 * k + 1]? = some xs[2 * k + 1] := List.getElem?_eq_getElem (by omega)
  have ha : atI xs (2 * (((k + i + 1 - 1 : Nat) : Int) + (i : Int) * (-1))) = some xs[2 * k] := by
   rw [ek, show 2 * (k : Int) = ((2 * k : Nat) : Int) from by omega]
   exact bL hx
  have hb : atI xs (2 * (((k + i + 1 - 1 : Nat) : Int) + (i : Int) * (-1)) + 1) = some xs[2 * k + 1] := by
   rw [ek, show 2 * (k : Int) + 1 = ((2 * k + 1 : Nat) : Int) from by omega]
   exact bL hy
  have hix : ixN xs.length (((k + i + 1 - 1 : Nat) : Int) + (i : Int) * (-1)) = some k := by
   rw [ek]
   exact Br (by omega)
  refine ⟨_, rfl, _, rfl, _, _, rfl, rfl, .inl ⟨by decide, by decide⟩, r, _, _, _, rfl, rfl, SqL.of hr1, ha, ?_⟩
  refine ⟨_, rfl, _, rfl, _, _, rfl, rfl, .inl ⟨by decide, by decide⟩, _, _, rfl, rfl, r, _, _, _, rfl, rfl, SqL.of hr1, hb, ?_⟩
  refine ⟨_, _, rfl, hv.ni _ (List.getElem_mem _), hv.ni _ (List.getElem_mem _), ?_⟩
  refine ⟨_, rfl, _, rfl, r, _, _, k, rfl, rfl, hr1, hix, ⟨_, rfl⟩, bN sm hr0 _, _, ak, ?_⟩
  rw [show k + i + 1 - (i + 1) = k from by omega]
  exact hv.step (by omega) (by omega) hx hy
 ·rintro σ H' ⟨⟨k3, rfl⟩, sm, xs, hr1, hv⟩
  rw [show S - (S - 1 - 0) = 1 from by omega] at hv
  exact ⟨_, rfl, q S r H' xs hSz hr0 sm hr1 hv⟩
def wR (K : PySem.W.Frag) : Sp := fun vs H Q _ => ∃ (p : Addr) (ns : List Int), vs = [.ref p] ∧ SqL K H p (ns.map V.int) ∧ ∀ b H', (b = true ↔ Tree ns) → aQ H H' → Q (.bl b) H'
theorem v9 (T : Tx K mg a) : aW P w K mg base CX0 1 a.f_is_tree a.fd_is_tree ["bits"] (wR K) := by
 refine T.D_is_tree.F.ok fX (fun vs H Q E h => ?_) (fun cdv A outer s H vs Q E hr h => ?_)
 ·obtain ⟨p, ns, rfl, _⟩ := h
  rfl
 obtain ⟨p, ns, rfl, hS, q⟩ := h
 refine ⟨_, (aj (aG (i := 1) fX.nd rfl (Or.inl rfl) aq)
  (aj (cC PassesOwn.never rfl (rY rfl T.b_enumerate (aa (pv 0) ao)) (mU rfl (cF (bh (i := 2) fX.nd rfl (Or.inl rfl)) (cF (bh (i := 3) fX.nd rfl (Or.inl rfl)) jU))) (aj (aZ (PW.pt (lg (aL ig (pv 2) aq (aN _)) (jV (aL jc (pv 1) aq (aN _))))) (au (aH gm)) aO)
  (au (aG (i := 1) fX.nd rfl (Or.inl rfl) (aD bG (aD bF (pv 1) (aD cI aq (pv 3))) aq)))))
  (au (aH (Ak (o5 vI (aV aP rfl T.b_len Tw.cu (aa (pv 0) ao)) aq (aN _)) (zA (o5 fP (pv 1) aq (aN _)))))))), ?_⟩
 refine ⟨_, rfl, p, _, rfl, hS, ?_⟩
 refine uQ (xs := ns.map V.int) (fun i σ H' => (∃ k2 k3, σ = [some (.ref p), some (.int (ht ns i)), k2, k3]) ∧ aQ H H' ∧ ∀ k, 0 < k → k < i → 0 < ht ns k) ⟨⟨none, none, by rw [fB]; rfl⟩, aQ.refl _, fun k _ h => absurd h (Nat.not_lt_zero _)⟩ ?_ ?_ ?_
 ·rintro i σ H' _ ⟨_, sm, _⟩
  exact sm.seq hS
 ·rintro i x σ H' pt hx ⟨⟨k2, k3, rfl⟩, sm, up⟩ hpt
  obtain ⟨b, hb, rfl⟩ := int_at hx
  have hi := (List.getElem?_eq_some_iff.mp hb).1
  have sm' := sm.trans (aA hpt (.tup [.int (i : Int), .int b]))
  refine ⟨pt, _, rfl, SqT.of ak, rfl, _, _, rfl, _, _, rfl, rfl, ?_⟩
  have go : (0 < i → 0 < ht ns i) → (∃ k2 k3, [some (V.ref p), some (.int (ht ns i + 2 * b - 1)), some (.int (i : Int)), some (.int b)] = [some (.ref p), some (.int (ht ns (i + 1))), k2, k3]) ∧ aQ H (upd H' pt (.tup [.int (i : Int), .int b])) ∧ ∀ k, 0 < k → k < i + 1 → 0 < ht ns k := fun h =>
   ⟨⟨_, _, by rw [dR hb]⟩, sm', fun k k0 k1 => by
    rcases Nat.lt_or_ge k i with l | l
    ·exact up k k0 l
    ·have : k = i := by omega
     subst this
     exact h k0⟩
  refine ⟨_, rfl, _, _, rfl, rfl, _, rfl, bW (fun c1 => ?_) fun c1 => ?_⟩
  ·have c1 : (0 : Int) < (i : Int) := of_decide_eq_true c1
   refine ⟨_, rfl, _, _, rfl, rfl, _, rfl, bW (fun c2 => ?_) fun c2 => ?_⟩
   ·have c2 : ht ns i ≤ 0 := of_decide_eq_true c2
    exact q false _ ⟨fun z => absurd z Bool.false_ne_true, fun t => by have := t.2.2 i (by omega) hi; omega⟩ sm'
   ·have c2 : ¬ ht ns i ≤ 0 := fun z => c2 (decide_eq_true z)
    exact ⟨_, rfl, _, rfl, _, _, rfl, rfl, .inl ⟨by decide, by decide⟩, _, _, rfl, rfl, _, _, rfl, rfl, go fun _ => by omega⟩
  ·have c1 : ¬ (0 : Int) < (i : Int) := fun z => c1 (decide_eq_true z)
   refine bw ?_
   exact ⟨_, rfl, _, rfl, _, _, rfl, rfl, .inl ⟨by decide, by decide⟩, _, _, rfl, rfl, _, _, rfl, rfl, go fun z => by omega⟩
 ·rintro σ H' ⟨⟨k2, k3, rfl⟩, sm, up⟩
  rw [List.length_map] at up ⊢
  refine ⟨_, rfl, p, _, rfl, .inl (sm.seq hS), _, _, rfl, rfl, _, rfl, bW (fun c1 => ?_) fun c1 => ?_⟩
  ·have c1 : (2 : Int) ≤ ((ns.map V.int).length : Int) := of_decide_eq_true c1
   rw [List.length_map] at c1
   refine ⟨_, rfl, rfl, ?_⟩
   refine q _ H' ?_ sm
   rw [decide_eq_true_iff]
   exact ⟨fun z => ⟨by omega, V.int.inj z, up⟩, fun t => congrArg V.int t.2.1⟩
  ·have c1 : ¬ (2 : Int) ≤ ((ns.map V.int).length : Int) := fun z => c1 (decide_eq_true z)
   rw [List.length_map] at c1
   exact q false H' ⟨fun z => absurd z Bool.false_ne_true, fun t => by have := t.1; omega⟩ sm
structure Tab (H : Hp) (t ah : Addr) (ns : List Int) (rest : List V) : Prop where
 tup : H t = some (.tup (.int (ns.length : Int) :: .ref ah :: rest))
 ahs : H ah = some (.tup ((ahd ns (many ns.length)).map V.int))
 few : rest.length ≤ 1
theorem Tab.same {H H' : Hp} {t ah : Addr} {ns : List Int} {rest : List V} (h : Tab H t ah ns rest) (s : aQ H H') : Tab H' t ah ns rest := ⟨s _ _ h.tup, s _ _ h.ahs, h.few⟩
theorem iT (x y : V) : ∀ rest : List V, rest.length ≤ 1 → atI (x :: y :: rest) 0 = some x
 | [], _ => rfl
 | [_], _ => rfl
 | _ :: _ :: _, h => absurd h (by simp)
theorem o9 (x y : V) : ∀ rest : List V, rest.length ≤ 1 → atI (x :: y :: rest) 1 = some y
 | [], _ => rfl
 | [_], _ => rfl
 | _ :: _ :: _, h => absurd h (by simp)
theorem z8 {ns : List Int} {n j : Nat} (h : j ≤ n) : atI ((ahd ns n).map V.int) (j : Int) = some (.int (ns.take (32 * j)).sum) := o6 (lu h)
def u5 (K : PySem.W.Frag) : Sp := fun vs H Q _ => ∃ (p : Addr) (ns : List Int), vs = [.ref p] ∧ SqL K H p (ns.map V.int) ∧ ns.length ≤ 4096 ∧ aU ns ∧
 ∀ r b t ah H', H b = none → aQ H H' → H' r = some (.tup [.ref t, .ref b]) → Tab H' t ah ns [] → H' b = some (.lst ((dw ns).map V.int)) → Q (.ref r) H'
theorem uU (T : Tx K mg a) : aW P w K mg base CX0 5 a.f_kept_row a.fd_kept_row ["bits"] (u5 K) := by
 refine T.D_kept_row.F.ok oF (fun vs H Q E h => ?_) (fun cdv A outer s H vs Q E hr h => ?_)
 ·obtain ⟨p, ns, rfl, _⟩ := h
  rfl
 obtain ⟨p, ns, rfl, hS, hl, hb, q⟩ := h
 refine ⟨_, (aj (aG (i := 1) oF.nd rfl (Or.inl rfl) (aK T.D_packed (zc T) (by decide) hr aJ rfl (aa (pv 0) ao)))
  (au (aH (cZ (aa (cZ (aa (aV aP rfl T.b_len Tw.cu (aa (pv 0) ao)) (aa (aK T.D_ahead_of (uA T) (by decide) hr aJ rfl (aa (pv 1) ao)) ao))) (aa (pv 1) ao)))))), ?_⟩
 refine ⟨_, rfl, p, ns, rfl, hS, hl, hb, fun b H1 hb0 sm1 h1 => ?_⟩
 refine ⟨_, rfl, p, _, rfl, .inl (sm1.seq hS), _, rfl, b, dw ns, rfl, SqL.of h1, ?_, fun ah H2 hah sm2 h2 => ?_⟩
 ·rw [fH]
  unfold many
  omega
 rw [sY hb] at h2
 have ern : (ns.map V.int).length = ns.length := List.length_map ..
 rw [ern]
 refine ⟨(by show 2 ≤ sizeLine; decide), fun t ht => ⟨_, rfl, (by show 2 ≤ sizeLine; decide), fun r hr' => ?_⟩⟩
 have s3 := aA ht (.tup [.int (ns.length : Int), .ref ah])
 have s4 := aA hr' (.tup [.ref t, .ref b])
 exact q r b t ah _ hb0 (sm1.trans (sm2.trans (s3.trans s4))) ak ⟨s4 _ _ ak, s4 _ _ (s3 _ _ h2), by decide⟩ (s4 _ _ (s3 _ _ (sm2 _ _ h1)))
def lX (K : PySem.W.Frag) : Sp := fun vs H Q _ => ∃ (p : Addr) (ns : List Int), vs = [.ref p] ∧ SqL K H p (ns.map V.int) ∧ ns.length ≤ 4096 ∧ aU ns ∧ Tree ns ∧ ∀ H', aQ H H' → Q .non H'
theorem lH (T : Tx K mg a) : aW P w K mg base CX0 2 a.f_check_brackets a.fd_check_brackets ["bits"] (lX K) := by
 refine T.D_check_brackets.F.ok lQ (fun vs H Q E h => ?_) (fun cdv A outer s H vs Q E hr h => ?_)
 ·obtain ⟨p, ns, rfl, _⟩ := h
  rfl
 obtain ⟨p, ns, rfl, hS, hl, hb, ht, q⟩ := h
 refine ⟨_, (aj (bj (aK T.D_check_row (lV T) (by decide) hr aJ rfl (aa (pv 0) ao)))
  (au (aZ (qg (pJ (aK T.D_is_tree (v9 T) (by decide) hr aJ rfl (aa (pv 0) ao)))) (au cN) aO))), ?_⟩
 refine ⟨_, rfl, p, ns, rfl, hS, hl, hb, ?_⟩
 refine ⟨_, rfl, p, ns, rfl, hS, fun b H' hbt sm => ?_⟩
 have : b = true := hbt.mpr ht
 subst this
 exact ⟨true, rfl, bw (q H' sm)⟩
def xj : Sp := fun vs H Q _ => ∃ (t ah : Addr) (ns : List Int) (rest : List V) (j : Nat), vs = [.ref t, .int (j : Int)] ∧ Tab H t ah ns rest ∧ j ≤ many ns.length ∧ Q (.int (ht ns (32 * j))) H
theorem j7 (T : Tx K mg a) : aW P w K mg base CX0 1 a.f_base_of a.fd_base_of ["tables", "number"] xj := by
 refine T.D_base_of.F.ok vY (fun vs H Q E h => ?_) (fun cdv A outer s H vs Q E hr h => ?_)
 ·obtain ⟨t, ah, ns, rest, j, rfl, _⟩ := h
  rfl
 obtain ⟨t, ah, ns, rest, j, rfl, hT, hj, q⟩ := h
 refine ⟨_, (au (aH (aD bG (aD cI aq (aR bA (aR bA (pv 0) aq (fun _ _ => rfl)) (pv 1) (fun _ _ => rfl))) (aD cI (bc (v := .int 32) rfl T.c_BLOCK_BITS ⟨_, rfl⟩) (pv 1))))), ?_⟩
 refine ⟨_, rfl, t, _, _, _, rfl, rfl, SqT.of hT.tup, o9 _ _ _ hT.few, _, rfl, ah, _, _, _, rfl, rfl, SqT.of hT.ahs, z8 hj, _, _, rfl, rfl, .inl ⟨by decide, by decide⟩, _, rfl, _, _, rfl, rfl, .inl ⟨by decide, by decide⟩, _, _, rfl, rfl, ?_⟩
 unfold ht at q
 rw [show ((32 * j : Nat) : Int) = 32 * (j : Int) from by omega] at q
 exact q
def qP : Sp := fun vs H Q _ => ∃ (j n : Nat), vs = [.int (j : Int), .int (n : Int)] ∧ 32 * j ≤ n ∧ Q (.int (wide n j : Nat)) H
theorem gJ (T : Tx K mg a) : aW P w K mg base CX0 1 a.f_end_within a.fd_end_within ["number", "upto"] qP := by
 refine T.D_end_within.F.ok qH (fun vs H Q E h => ?_) (fun cdv A outer s H vs Q E hr h => ?_)
 ·obtain ⟨j, n, rfl, _⟩ := h
  rfl
 obtain ⟨j, n, rfl, hj, q⟩ := h
 refine ⟨_, (au (aH (aV (rG rfl) rfl T.b_min Tw.vV (aa (aD bG (pv 1) (aD cI (bc (v := .int 32) rfl T.c_BLOCK_BITS ⟨_, rfl⟩) (pv 0))) (aa (bc (v := .int 32) rfl T.c_BLOCK_BITS ⟨_, rfl⟩) ao))))), ?_⟩
 refine ⟨_, rfl, _, rfl, _, _, rfl, rfl, .inl ⟨by decide, by decide⟩, _, _, rfl, rfl, _, _, rfl, ?_⟩
 have e : (if (32 : Int) < (n : Int) - 32 * (j : Int) then (32 : Int) else (n : Int) - 32 * (j : Int)) = ((wide n j : Nat) : Int) := by
  unfold wide
  split <;> omega
 rw [← e] at q
 exact q
def yu : Sp := fun vs H Q _ => ∃ (t ah : Addr) (ns : List Int) (rest : List V) (j : Nat), vs = [.ref t, .int (j : Int), .int (bU ns j)] ∧ Tab H t ah ns rest ∧ aU ns ∧ 32 * j < ns.length ∧ ∀ m H', rM ns j m → aQ H H' → Q (.int m) H'
theorem yC (T : Tx K mg a) : aW P w K mg base CX0 5 a.f_low_of a.fd_low_of ["tables", "number", "block"] yu := by
 refine T.D_low_of.F.ok yH (fun vs H Q E h => ?_) (fun cdv A outer s H vs Q E hr h => ?_)
 ·obtain ⟨t, ah, ns, rest, j, rfl, _⟩ := h
  rfl
 obtain ⟨t, ah, ns, rest, j, rfl, hT, hb, hj, q⟩ := h
 refine ⟨_, (au (aH (aD bF (aK T.D_base_of (j7 T) (by decide) hr aJ rfl (aa (pv 0) (aa (pv 1) ao))) (aK T.D_low_in (yI T) (by decide) hr aJ rfl (aa (pv 2) (aa (aK T.D_end_within (gJ T) (by decide) hr aJ rfl (aa (pv 1) (aa (aR bA (pv 0) aq (fun _ _ => rfl)) ao))) ao)))))), ?_⟩
 have hm : j ≤ many ns.length := by
  unfold many
  omega
 have hw : 1 ≤ wide ns.length j ∧ wide ns.length j ≤ 32 := by
  unfold wide
  omega
 refine ⟨_, rfl, _, rfl, t, ah, ns, rest, j, rfl, hT, hm, ?_⟩
 refine ⟨_, rfl, _, rfl, _, rfl, t, _, _, _, rfl, rfl, SqT.of hT.tup, iT _ _ _ hT.few, j, ns.length, rfl, by omega, ?_⟩
 refine ⟨bU ns j, ((wide ns.length j : Nat) : Int), rfl, by omega, by omega, fun M H' hM sm => ⟨_, _, rfl, rfl, ?_⟩⟩
 rw [Int.toNat_natCast] at hM
 exact q _ H' (rM.of hb hM.1 hM.2) sm
structure KB (H : Hp) (t ah nd bl : Addr) (ns lows : List Int) (S : Nat) (xs : List V) : Prop where
 tab : Tab H t ah ns [.ref nd]
 nds : H nd = some (.tup xs)
 bls : H bl = some (.lst ((dw ns).map V.int))
 low : xm ns lows
 sz : ji lows.length S
 heap : gA lows S 1 xs
def mK (K : PySem.W.Frag) : Sp := fun vs H Q _ => ∃ (p : Addr) (ns : List Int), vs = [.ref p] ∧ SqL K H p (ns.map V.int) ∧ ns.length ≤ 4096 ∧ aU ns ∧ Tree ns ∧
 ∀ r t ah nd bl lows S xs H', H bl = none → H r = none → H t = none → aQ H H' → H' r = some (.tup [.ref t, .ref bl]) → KB H' t ah nd bl ns lows S xs → Q (.ref r) H'
theorem m8 (T : Tx K mg a) : aW P w K mg base CX0 6 a.f_kept_brackets a.fd_kept_brackets ["bits"] (mK K) := by
 refine T.D_kept_brackets.F.ok cA (fun vs H Q E h => ?_) (fun cdv A outer s H vs Q E hr h => ?_)
 ·obtain ⟨p, ns, rfl, _⟩ := h
  rfl
 obtain ⟨p, ns, rfl, hS, hl, hb, ht, q⟩ := h
 refine ⟨_, (aj (bj (aK T.D_check_brackets (lH T) (by decide) hr aJ rfl (aa (pv 0) ao)))
  (aj (aG (i := 1) cA.nd rfl (Or.inl rfl) (aK T.D_kept_row (uU T) (by decide) hr aJ rfl (aa (pv 0) ao)))
  (aj (aG (i := 2) cA.nd rfl (Or.inr rfl) (aR bA (pv 1) aq (fun _ _ => rfl)))
  (aj (aG (i := 3) cA.nd rfl (Or.inl rfl) (aR bA (pv 1) aq (fun _ _ => rfl)))
  (aj (uO (i := 4) cA.nd rfl rfl rfl ⟨(dM.one (j := 2) rfl (Or.inl rfl) rfl rfl (Or.inl rfl)), rfl, by decide⟩ (rY rfl T.b_enumerate (aa (pv 3) ao)) (fun _ _ _ _ => (aK T.D_low_of (yC T) (by decide) hr aJ rfl (aa (pv 2) (aa (pv 0) (aa (pv 1) ao))))))
  (au (aH (cZ (aa (cZ (aa (aR bA (pv 2) aq (fun _ _ => rfl)) (aa (aR bA (pv 2) aq (fun _ _ => rfl)) (aa (gU jZ rfl T.b_tuple Tw.vd (aa (aK T.D_heap_of (wM T) (by decide) hr aJ rfl (aa (pv 4) ao)) ao)) ao)))) (aa (pv 3) ao)))))))))), ?_⟩
 refine ⟨_, rfl, p, ns, rfl, hS, hl, hb, ht, fun H1 s1 => ?_⟩
 refine ⟨_, rfl, p, ns, rfl, s1.seq hS, hl, hb, fun r b t ah H2 hb0 s2 xr hT xb => ?_⟩
 refine ⟨_, rfl, r, _, _, _, rfl, rfl, SqT.of xr, rfl, ?_⟩
 refine ⟨_, rfl, r, _, _, _, rfl, rfl, SqT.of xr, rfl, ?_⟩
 have hpl := fH ns
 have hml : many ns.length ≤ 128 := by
  unfold many
  omega
 refine ⟨_, rfl, b, _, rfl, SqL.of xb, ?_⟩
 refine wZ (rM ns) (SqL.of xb) (by rw [hpl, sizeLine_eq]; omega) (fun i c H' Q hc sm qq => ?_) fun D H3 ls hD s3 xD hlen hR => ?_
 ·have hi := (List.getElem?_eq_some_iff.mp hc).1
  rw [hpl] at hi
  rw [dJ hi] at hc
  cases hc
  refine ⟨_, rfl, _, rfl, _, rfl, t, ah, ns, [], i, rfl, hT.same sm, hb, ?_, qq⟩
  unfold many at hi
  omega
 have hLo : xm ns ls := ⟨by rw [hlen, hpl], hR⟩
 refine ⟨_, rfl, t, _, _, _, rfl, rfl, SqT.of (s3 _ _ hT.tup), rfl, ?_⟩
 refine ⟨_, rfl, t, _, _, _, rfl, rfl, SqT.of (s3 _ _ hT.tup), rfl, ?_⟩
 refine ⟨_, rfl, D, ls, rfl, SqL.of xD, by omega, fun S r4 H4 xs hSz hr4 s4 x4 hv => ?_⟩
 refine ⟨r4, _, rfl, .inl ⟨SqL.of x4, fun nd hnd => ?_⟩⟩
 have s5 := aA hnd (.tup xs)
 refine ⟨(by show 3 ≤ sizeLine; decide), fun t6 ht6 => ?_⟩
 have s6 := aA ht6 (.tup [.int (ns.length : Int), .ref ah, .ref nd])
 refine ⟨_, rfl, (by show 2 ≤ sizeLine; decide), fun r7 hr7 => ?_⟩
 have s7 := aA hr7 (.tup [.ref t6, .ref b])
 have sA := s3.trans (s4.trans (s5.trans (s6.trans s7)))
 refine q r7 t6 ah nd b ls S xs _ (s1.free hb0) ((s1.trans (s2.trans (s3.trans (s4.trans (s5.trans s6))))).free hr7) ((s1.trans (s2.trans (s3.trans (s4.trans s5)))).free ht6) (s1.trans (s2.trans sA)) ak ⟨⟨s7 _ _ ak, sA _ _ hT.ahs, Nat.le_refl _⟩, s7 _ _ (s6 _ _ ak), sA _ _ xb, hLo, hSz, hv⟩
def oK : Sp := fun vs H Q _ => ∃ (p : Addr) (ds : List Int), vs = [.ref p] ∧ H p = some (.lst (ds.map V.int)) ∧ bT ds ∧ ds.length ≤ 2048 ∧ ∀ H', aQ H H' → Q .non H'
theorem oV (T : Tx K mg a) : aW P w K mg base CX0 1 a.f_check_depths a.fd_check_depths ["depths"] oK := by
 refine T.D_check_depths.F.ok eX (fun vs H Q E h => ?_) (fun cdv A outer s H vs Q E hr h => ?_)
 ·obtain ⟨p, ds, rfl, _⟩ := h
  rfl
 obtain ⟨p, ds, rfl, hp, hg, hl, q⟩ := h
 refine ⟨_, (aj (aZ (aL ig (aV aP rfl T.b_len Tw.cu (aa (pv 0) ao)) (bc (v := .int 2048) rfl T.c_MOST_NODES ⟨_, rfl⟩) (aN _)) (au cN) aO)
  (aj (aZ (PW.pt (pK (aL fP (aV aP rfl T.b_len Tw.cu (aa (pv 0) ao)) aq (aN _)) (pA (aL xX (aR aX (pv 0) aq (fun _ _ => rfl)) aq (aN _))))) (au cN) aO)
  (au (cC PassesOwn.never rfl (Eb rfl T.b_zip Tw.Dl (aa (pv 0) (aa (ie jQ (pv 0) (iB aq) lD) ao))) (mU rfl (cF (bh (i := 1) eX.nd rfl (Or.inl rfl)) (cF (bh (i := 2) eX.nd rfl (Or.inl rfl)) jU))) (au (aZ (qg (uM jc jc aq (pv 2) (aD bF (pv 1) aq))) (au cN) aO)))))), ?_⟩
 have ern : (ds.map V.int).length = ds.length := List.length_map ..
 have h0 : 0 < ds.length := (List.getElem?_eq_some_iff.mp hg.1).1
 refine ⟨_, rfl, p, _, rfl, .inl (SqL.of hp), _, _, rfl, rfl, _, rfl, bW (fun c => ?_) fun c => ?_⟩
 ·have c : (2048 : Int) < ((ds.map V.int).length : Int) := of_decide_eq_true c
  rw [ern] at c
  omega
 refine ⟨_, rfl, p, _, rfl, .inl (SqL.of hp), rfl, _, rfl, bW (fun c => ?_) fun c => ?_⟩
 ·have c : V.int ((ds.map V.int).length : Int) = V.int 0 := of_decide_eq_true c
  injection c with c
  rw [ern] at c
  omega
 refine ⟨_, rfl, p, _, _, _, rfl, rfl, SqL.of hp, o6 (i := 0) hg.1, rfl, _, rfl, uF rfl ?_⟩
 refine ⟨_, rfl, _, rfl, _, rfl, p, _, rfl, SqL.of hp, fun c hc => ?_⟩
 have s1 := aA hc (.lst (jX (ds.map V.int) (some 1) none))
 have ec : jX (ds.map V.int) (some 1) none = (ds.drop 1).map V.int := Ay ds 1
 have xc : upd H c (.lst (jX (ds.map V.int) (some 1) none)) c = some (.lst ((ds.drop 1).map V.int)) := by rw [ak, ec]
 generalize upd H c (.lst (jX (ds.map V.int) (some 1) none)) = H1 at *
 refine ⟨p, c, _, _, rfl, SqL.of (s1 _ _ hp), SqL.of xc, ?_⟩
 refine Bu (xs := ds.map V.int) (ys := (ds.drop 1).map V.int) (fun i σ H' => (∃ k1 k2, σ = [some (.ref p), k1, k2]) ∧ aQ H1 H') ⟨⟨none, none, rfl⟩, aQ.refl _⟩ ?_ ?_ ?_
 ·rintro i σ H' _ ⟨_, sm⟩
  exact ⟨SqL.of (sm _ _ (s1 _ _ hp)), SqL.of (sm _ _ xc)⟩
 ·rintro i x y σ H' t hx hy ⟨⟨k1, k2, rfl⟩, sm⟩ ht
  obtain ⟨u, hu, rfl⟩ := int_at hx
  obtain ⟨v, hv, rfl⟩ := int_at hy
  rw [List.getElem?_drop, Nat.add_comm] at hv
  have hh := hg.2 i u v hu hv
  have s2 := aA ht (.tup [.int u, .int v])
  refine ⟨t, _, rfl, SqT.of ak, rfl, _, _, rfl, _, _, rfl, rfl, ?_⟩
  exact ⟨_, rfl, _, _, rfl, rfl, _, rfl, bW (fun _ => ⟨_, rfl, _, _, rfl, rfl, _, _, rfl, rfl, _, rfl, uF hh.2 ⟨⟨_, _, rfl⟩, sm.trans s2⟩⟩) fun z => absurd (decide_eq_true hh.1) z⟩
 ·rintro σ H' ⟨_, sm⟩
  exact q H' (s1.trans sm)
def pQ : Sp := fun vs H Q _ => ∃ (p : Addr) (ds : List Int), vs = [.ref p] ∧ H p = some (.lst (ds.map V.int)) ∧ bT ds ∧ ds.length ≤ 2048 ∧ ∀ r H', H r = none → aQ H H' → H' r = some (.lst ((brk ds 0).map V.int)) → Q (.ref r) H'
theorem pU (T : Tx K mg a) : aW P w K mg base CX0 2 a.f_brackets_of a.fd_brackets_of ["depths"] pQ := by
 refine T.D_brackets_of.F.ok cP (fun vs H Q E h => ?_) (fun cdv A outer s H vs Q E hr h => ?_)
 ·obtain ⟨p, ds, rfl, _⟩ := h
  rfl
 obtain ⟨p, ds, rfl, hp, hg, hl, q⟩ := h
 refine ⟨_, (aj (bj (aK T.D_check_depths (oV T) (by decide) hr aJ rfl (aa (pv 0) ao)))
  (aj (aG (i := 1) cP.nd rfl (Or.inl rfl) (bO ao))
  (aj (aG (i := 2) cP.nd rfl (Or.inl rfl) aq)
  (aj (cC PassesOwn.never rfl (fJ (pv 0)) (bh (i := 3) cP.nd rfl (Or.inl rfl)) (aj (bj (fO PySem.F.plainAttrs_list PySem.F.slot_list_extend PySem.F.type_list_extend yG (pv 1) (aa (aD sZ (bO (aa aq ao)) (aD bG (pv 2) (pv 3))) ao)))
  (aj (bj (fO PySem.F.plainAttrs_list PySem.F.slot_list_append PySem.F.type_list_append bV (pv 1) (aa aq ao)))
  (au (aG (i := 2) cP.nd rfl (Or.inl rfl) (aD bF (pv 3) aq))))))
  (au (aH (aD tW (pv 1) (aD sZ (bO (aa aq ao)) (pv 2))))))))), ?_⟩
 have hbl := iR hg.dp
 refine ⟨_, rfl, p, ds, rfl, hp, hg, hl, fun H1 s1 => ?_⟩
 refine ⟨(by show 0 ≤ sizeLine; decide), fun b hb => ?_⟩
 have s2 := s1.trans (aA hb (.lst []))
 have xb : upd H1 b (.lst []) b = some (.lst (([] : List Int).map V.int)) := ak
 have hbH : H b = none := s1.free hb
 generalize upd H1 b (.lst []) = H2 at *
 refine ⟨_, rfl, p, rfl, ⟨_, SqL.of (s2 _ _ hp)⟩, ?_⟩
 refine cL (xs := ds.map V.int) (fun i σ H' => (∃ (u : Int) (k3 : Option V) (bs : List Int), σ = [some (.ref p), some (.ref b), some (.int u), k3] ∧ H' b = some (.lst (bs.map V.int)) ∧ bs ++ brk (ds.drop i) u = brk ds 0 ∧ Dp (ds.drop i) u) ∧ aQ H H') ⟨⟨0, none, [], rfl, xb, rfl, hg.dp⟩, s2⟩ ?_ ?_ ?_
 ·rintro i σ H' _ ⟨_, sm⟩
  exact SqL.of (sm _ _ hp)
 ·rintro i x σ H' hx ⟨⟨u, k3, bs, rfl, xb', eb, hd⟩, sm⟩
  obtain ⟨d, hdi, rfl⟩ := int_at hx
  have hi := (List.getElem?_eq_some_iff.mp hdi).1
  have edr : ds.drop i = d :: ds.drop (i + 1) := by
   rw [List.drop_eq_getElem_cons hi]
   congr 1
   exact (List.getElem?_eq_some_iff.mp hdi).2
  rw [edr] at eb hd
  obtain ⟨d0, du, hd'⟩ := hd
  have hlen := congrArg List.length eb
  simp only [brk, List.length_append, List.length_replicate, List.length_cons] at hlen
  rw [hbl] at hlen
  have hu : u - d ≤ 4096 := by omega
  have ub : bs.length ≤ 4096 := by omega
  refine ⟨_, rfl, .inl ⟨rfl, _, SqL.of xb'⟩, ?_⟩
  refine ⟨(by show 1 ≤ sizeLine; decide), fun l1 h1 => ⟨_, rfl, _, rfl, _, _, rfl, rfl, l1, u - d, [.int 0], rfl, rfl, ak, by omega, by omega, ?_, fun r1 hr1 => ?_⟩⟩
  ·rw [sizeLine_eq]
   show 1 * _ ≤ _
   omega
  have s3 := (aA h1 (.lst [.int 0])).trans (aA hr1 (.lst (List.replicate (u - d).toNat [.int 0]).flatten))
  have x3 : upd (upd H' l1 (.lst [.int 0])) r1 (.lst (List.replicate (u - d).toNat [.int 0]).flatten) r1 = some (.lst ((List.replicate (u - d).toNat (0 : Int)).map V.int)) := by
   rw [ak, xV]
  have xb3 := s3 _ _ xb'
  have sm3 := sm.trans s3
  generalize upd (upd H' l1 (.lst [.int 0])) r1 (.lst (List.replicate (u - d).toNat [.int 0]).flatten) = H3 at *
  refine ⟨b, r1, _, _, rfl, rfl, xb3, x3, ?_, ?_⟩
  ·rw [List.length_map, List.length_map, List.length_replicate, sizeLine_eq]
   omega
  have x4 : upd H3 b (.lst (bs.map V.int ++ (List.replicate (u - d).toNat (0 : Int)).map V.int)) b = some (.lst ((bs ++ List.replicate (u - d).toNat 0).map V.int)) := by
   rw [ak, List.map_append]
  have sm4 := bN sm3 hbH (.lst (bs.map V.int ++ (List.replicate (u - d).toNat (0 : Int)).map V.int))
  generalize upd H3 b (.lst (bs.map V.int ++ (List.replicate (u - d).toNat (0 : Int)).map V.int)) = H4 at *
  refine ⟨_, rfl, .inl ⟨rfl, _, SqL.of x4⟩, b, _, _, rfl, rfl, x4, ?_, ?_⟩
  ·rw [List.length_map, List.length_append, List.length_replicate, sizeLine_eq]
   omega
  refine ⟨_, rfl, _, _, rfl, rfl, ⟨d + 1, _, bs ++ List.replicate (u - d).toNat 0 ++ [1], rfl, ?_, ?_, hd'⟩, bN sm4 hbH _⟩
  ·rw [ak, List.map_append (l₂ := [1])]
   rfl
  ·rw [← eb]
   simp [brk]
 ·rintro σ H' ⟨⟨u, k3, bs, rfl, xb', eb, hd⟩, sm⟩
  rw [List.length_map, List.drop_length] at eb hd
  have hu : 0 ≤ u := hd
  have hlen := congrArg List.length eb
  simp only [brk, List.length_append, List.length_replicate] at hlen
  rw [hbl] at hlen
  refine ⟨_, rfl, ?_⟩
  refine xH (i := 2) (k := u) (xs := [.int 0]) (fun Q' q => q) rfl (by omega) (by decide) (by omega) fun p1 H4 hp1 s4 x4 => ?_
  rw [xV] at x4
  refine ⟨b, p1, _, _, rfl, rfl, s4 _ _ xb', x4, ?_, fun p2 hp2 => ?_⟩
  ·rw [List.length_map, List.length_map, List.length_replicate, sizeLine_eq]
   omega
  refine q p2 _ ((sm.trans s4).free hp2) (sm.trans (s4.trans (aA hp2 _))) ?_
  rw [ak, ← List.map_append]
  exact congrArg (fun l : List Int => some (HO.lst (l.map V.int))) eb
def qw : Sp := fun vs H Q E => ∃ at0 most : Int, vs = [.int at0, .int most] ∧ 0 ≤ at0 ∧ at0 ≤ most ∧ Q .non H
theorem di (T : Tx K mg a) : aW P w K mg base CX0 1 a.f_check_place a.fd_check_place ["at", "most"] qw := by
 refine T.D_check_place.F.ok p8 (fun vs H Q E h => ?_) (fun cdv A outer s H vs Q E hr h => ?_)
 ·obtain ⟨p, m, rfl, _⟩ := h
  rfl
 obtain ⟨at0, most, rfl, h0, h1, q⟩ := h
 refine ⟨_, (au (aZ (PW.pt (pK (aL jd (pv 0) aq (aN _)) (pA (aL ig (pv 0) (pv 1) (aN _))))) (au cN) aO)), ?_⟩
 refine ⟨_, rfl, _, _, rfl, rfl, _, rfl, bW (fun c => ?_) fun c => ?_⟩
 ·have c := of_decide_eq_true c
  omega
 refine ⟨_, rfl, _, rfl, _, _, rfl, rfl, _, rfl, bW (fun c2 => ?_) fun c2 => ?_⟩
 ·have c2 := of_decide_eq_true c2
  omega
 exact q
def vf : Addr → Sp := fun f vs H Q _ => ∃ (sn nd : Addr) (ss : List Int) (xs : List V) (n : Nat) (x : V), vs = [.int (n : Int)] ∧ Asks H f sn nd ss xs ∧ ss.length < 1000 ∧ xs[n]? = some x ∧ Q x (upd H sn (.lst ((ss ++ [(n : Int)]).map V.int)))
theorem dW (T : Tx K mg a) : nU P w K mg base 1 vf := by
 refine DQ uP (fun _ _ _ _ _ us hl => match us, hl with | [_], _ => rfl) fun f vs H Q h => ?_
 obtain ⟨sn, nd, ss, xs, n, x, rfl, ⟨⟨cs, ca⟩, h1, h2, ne, hls⟩, hl2, hg, q⟩ := h
 have o1 := je.out ca h1
 have o2 := je.out ca h2
 refine ⟨rfl, cs, [.ref sn, .ref nd], ca, fun cd A outer s hr => ⟨_, (aj (bj (fO PySem.F.plainAttrs_list PySem.F.slot_list_append PySem.F.type_list_append bV (pv 1) (aa (pv 0) ao)))
  (aj (aZ (uM jc jd aq (pv 0) (aV aP rfl T.b_len Tw.cu (aa (pv 2) ao))) (au (aH (aR aX (pv 2) (pv 0) (fun _ _ => rfl)))) aO)
  (au (aH aq)))), ?_⟩⟩
 have g1 : hide H cs sn = some (.lst (ss.map V.int)) := by rw [bK o1]; exact h1
 have g2 : upd (hide H cs) sn (.lst (ss.map V.int ++ [.int (n : Int)])) nd = some (.lst xs) := by rw [aC (Ne.symm ne), bK o2]; exact h2
 have hn := (List.getElem?_eq_some_iff.mp hg).1
 refine ⟨_, rfl, .inl ⟨rfl, _, SqL.of g1⟩, _, rfl, sn, _, _, rfl, rfl, g1, ?_, ?_⟩
 ·rw [List.length_map, sizeLine_eq]
  omega
 refine ⟨_, rfl, _, _, rfl, rfl, _, rfl, bW (fun _ => ?_) fun z => absurd (decide_eq_true (show (0 : Int) ≤ (n : Int) by omega)) z⟩
 refine ⟨_, rfl, nd, _, rfl, .inl (SqL.of g2), _, _, rfl, rfl, _, rfl, bW (fun _ => ?_) fun z => absurd (decide_eq_true (show (n : Int) < (xs.length : Int) by omega)) z⟩
 refine ⟨_, rfl, _, rfl, nd, _, _, _, rfl, rfl, SqL.of g2, bL hg, ?_⟩
 show Q x (over H cs (upd (hide H cs) sn (.lst (ss.map V.int ++ [.int (n : Int)]))))
 rw [zH o1, rA]
 rw [List.map_append] at q
 exact q
def uK (Pt : Addr) : Sp := fun vs H Q _ => ∃ (nd sn : Addr), vs = [.ref nd, .ref sn] ∧ TabAt H Pt (uW dO) cQ.qual ∧
 ∀ f H2, H f = none → fj Pt H H2 → TabAt H2 Pt (uW dO) cQ.qual → dB H2 f sn nd → Q (.ref f) H2
theorem vG (T : Tx K mg a) (B : Bs mg base a) : aW P w K mg base CX0 1 a.f_law_look a.fd_law_look ["_law_blocks", "_law_seen"] (uK a.tP_law_look) := by
 refine Fun.maker0 (T := cQ) (pos := uW dO) T.D_law_look.F n6 vB B.bm T.w_law_look B.C_law_look (fun vs H Q E h => ?_) rfl (fun vs H Q E h => ?_)
 ·obtain ⟨bl, sn, rfl, _⟩ := h
  rfl
 obtain ⟨nd, sn, rfl, hT, q⟩ := h
 refine ⟨hT, [.ref sn, .ref nd], fun j m e => ?_, rfl, fun fi cs H2 n1 n2 n3 n4 n5 => q fi H2 n1 n3 n4 ⟨cs, n5⟩⟩
 match j, e with
 | 0, e => cases e; exact ⟨_, rfl, rfl⟩
 | 1, e => cases e; exact ⟨_, rfl, rfl⟩
 | j + 2, e => simp at e
structure Ask (H : Hp) (t f sn bl ah : Addr) (ns ss : List Int) (rest : List V) : Prop where
 tab : Tab H t ah ns rest
 asks : Asks H f sn bl ss ((dw ns).map V.int)
 bits : aU ns
 len : ns.length ≤ 4096
theorem Ask.same {H H' : Hp} {t f sn bl ah : Addr} {ns ss : List Int} {rest : List V} (h : Ask H t f sn bl ah ns ss rest) (s : aQ H H') : Ask H' t f sn bl ah ns ss rest := ⟨h.tab.same s, h.asks.same s, h.bits, h.len⟩
theorem Ask.more {H : Hp} {t f sn bl ah : Addr} {ns ss tt : List Int} {rest : List V} (h : Ask H t f sn bl ah ns ss rest) (hl : tt.length ≤ 1000) : Ask (L2.upd H sn (.lst (tt.map V.int))) t f sn bl ah ns tt rest :=
 ⟨⟨by rw [aC (fun z => by have := h.tab.tup; rw [z, h.asks.seen] at this; cases this)]; exact h.tab.tup, by rw [aC (fun z => by have := h.tab.ahs; rw [z, h.asks.seen] at this; cases this)]; exact h.tab.ahs, h.tab.few⟩, h.asks.more hl, h.bits, h.len⟩
def bI (n k : Nat) (ss ss' : List Int) : Prop := ∃ tt : List Int, ss' = ss ++ tt ∧ tt.length ≤ k ∧ ∀ x ∈ tt, 0 ≤ x ∧ x < n
theorem bI.none {n k : Nat} (ss : List Int) : bI n k ss ss := ⟨[], by simp, by simp, nofun⟩
theorem bI.one {n : Nat} (ss : List Int) {i : Int} (h0 : 0 ≤ i) (h1 : i < n) : bI n 1 ss (ss ++ [i]) := ⟨[i], rfl, by simp, fun x hx => by rw [List.mem_singleton.mp hx]; exact ⟨h0, h1⟩⟩
theorem bI.trans {n j k : Nat} {a b c : List Int} (h : bI n j a b) (h' : bI n k b c) : bI n (j + k) a c := by
 obtain ⟨t, rfl, l, m⟩ := h
 obtain ⟨u, rfl, l', m'⟩ := h'
 refine ⟨t ++ u, by rw [List.append_assoc], by rw [List.length_append]; omega, fun x hx => ?_⟩
 rcases List.mem_append.mp hx with hx | hx
 ·exact m x hx
 ·exact m' x hx
theorem bI.le {n j k : Nat} {a b : List Int} (h : bI n j a b) (hk : j ≤ k) : bI n k a b := by
 obtain ⟨t, e, l, m⟩ := h
 exact ⟨t, e, by omega, m⟩
theorem bI.len {n k : Nat} {a b : List Int} (h : bI n k a b) : b.length ≤ a.length + k := by
 obtain ⟨t, rfl, l, m⟩ := h
 rw [List.length_append]
 omega
def vN : Sp := fun vs H Q E => ∃ (t f sn bl ah : Addr) (ns ss : List Int) (rest : List V) (at0 : Nat), vs = [.ref t, .ref f, .int (at0 : Int)] ∧ Ask H t f sn bl ah ns ss rest ∧ ss.length < 1000 ∧ at0 ≤ ns.length ∧
 ∀ ss' H', bI (many ns.length) 1 ss ss' → aQ (upd H sn (.lst (ss'.map V.int))) H' → Q (.int (ns.take at0).sum) H'
theorem j6 (T : Tx K mg a) : aW P w K mg base CX0 4 a.f_ones_at a.fd_ones_at ["tables", "look", "at"] vN := by
 refine T.D_ones_at.F.ok gr (fun vs H Q E h => ?_) (fun cdv A outer s H vs Q E hr h => ?_)
 ·obtain ⟨t, f, sn, bl, ah, ns, ss, rest, at0, rfl, _⟩ := h
  rfl
 obtain ⟨t, f, sn, bl, ah, ns, ss, rest, at0, rfl, hA, hls, hat0, q⟩ := h
 refine ⟨_, (aj (aG (i := 3) gr.nd rfl (Or.inl rfl) (aR bA (pv 0) aq (fun _ _ => rfl)))
  (aj (aG (i := 4) gr.nd rfl (Or.inl rfl) (aR bA (pv 0) aq (fun _ _ => rfl)))
  (aj (bj (aK T.D_check_place (di T) (by decide) hr aJ rfl (aa (pv 2) (aa (pv 3) ao))))
  (aj (aG (i := 5) gr.nd rfl (Or.inl rfl) (aD bM (pv 2) (bc (v := .int 32) rfl T.c_BLOCK_BITS ⟨_, rfl⟩)))
  (aj (aG (i := 6) gr.nd rfl (Or.inl rfl) (aD bQ (pv 2) (bc (v := .int 32) rfl T.c_BLOCK_BITS ⟨_, rfl⟩)))
  (aj (aZ (aL fP (pv 6) aq (aN _)) (au (aH (aR bA (pv 4) (pv 5) (fun _ _ => rfl)))) aO)
  (au (aH (aD bF (aR bA (pv 4) (pv 5) (fun _ _ => rfl)) (aK T.D_ones_in (qy T) (by decide) hr aJ rfl (aa (dY ((dW T).mono (by decide)) hr (i := 1) rfl (aa (pv 5) ao)) (aa (pv 6) ao)))))))))))), ?_⟩
 refine ⟨_, rfl, t, _, _, _, rfl, rfl, SqT.of hA.tab.tup, iT _ _ _ hA.tab.few, ?_⟩
 refine ⟨_, rfl, t, _, _, _, rfl, rfl, SqT.of hA.tab.tup, o9 _ _ _ hA.tab.few, ?_⟩
 refine ⟨_, rfl, _, rfl, _, _, rfl, by omega, by omega, ?_⟩
 refine ⟨_, rfl, _, _, rfl, rfl, ⟨by decide, by decide⟩, ?_⟩
 refine ⟨_, rfl, _, _, rfl, rfl, (by show (0 : Int) < 32; decide), ?_⟩
 have ej : (at0 : Int) / 32 = ((at0 / 32 : Nat) : Int) := by omega
 have hat : atI ((ahd ns (many ns.length)).map V.int) ((at0 : Int) / 32) = some (.int (ns.take (32 * (at0 / 32))).sum) := by
  rw [ej]
  exact z8 (by unfold many; omega)
 refine ⟨_, rfl, rfl, _, rfl, bW (fun c => ?_) fun c => ?_⟩
 ·have c : V.int ((at0 : Int) % 32) = V.int 0 := of_decide_eq_true c
  injection c with c
  refine ⟨_, rfl, _, rfl, ah, _, _, _, rfl, rfl, SqT.of hA.tab.ahs, hat, ?_⟩
  have := q ss H (bI.none ss) (by rw [Dr hA.asks.seen]; exact aQ.refl _)
  rw [show at0 = 32 * (at0 / 32) from by omega] at this
  exact this
 have c : (at0 : Int) % 32 ≠ 0 := fun z => c (decide_eq_true (congrArg V.int z))
 obtain ⟨o, fd, e1, g1⟩ := hA.asks.look.fn
 have hm : at0 / 32 < many ns.length := by
  unfold many
  omega
 have hg : ((dw ns).map V.int)[at0 / 32]? = some (.int (bU ns (at0 / 32))) := by
  rw [List.getElem?_map, dJ hm]
  rfl
 refine ⟨_, rfl, _, rfl, ah, _, _, _, rfl, rfl, SqT.of hA.tab.ahs, hat, f, o, fd, rfl, e1, g1, _, rfl, e1, sn, bl, ss, _, at0 / 32, _, congrArg (fun v => [v]) (congrArg V.int ej), hA.asks, hls, hg, ?_⟩
 refine ⟨_, rfl, _, _, rfl, (show 0 ≤ (at0 : Int) % 32 from by omega), (show (at0 : Int) % 32 ≤ 32 from by omega), fun H' sm => ⟨_, _, rfl, rfl, ?_⟩⟩
 have := q (ss ++ [((at0 / 32 : Nat) : Int)]) H' (bI.one ss (by omega) (by omega)) sm
 have e : (ns.take at0).sum = (ns.take (32 * (at0 / 32))).sum + ones (bU ns (at0 / 32)) ((at0 : Int) % 32).toNat := by
  rw [jT hA.bits _ _ (by omega)]
  congr 2
  omega
 rw [e] at this
 exact this
def yh : Sp := fun vs H Q E => ∃ (t f sn bl ah : Addr) (ns ss : List Int) (rest : List V) (at0 : Nat), vs = [.ref t, .ref f, .int (at0 : Int)] ∧ Ask H t f sn bl ah ns ss rest ∧ ss.length < 1000 ∧ at0 ≤ ns.length ∧
 ∀ ss' H', bI (many ns.length) 1 ss ss' → aQ (upd H sn (.lst (ss'.map V.int))) H' → Q (.int (ht ns at0)) H'
theorem rz (T : Tx K mg a) : aW P w K mg base CX0 5 a.f_height a.fd_height ["tables", "look", "at"] yh := by
 refine T.D_height.F.ok yr (fun vs H Q E h => ?_) (fun cdv A outer s H vs Q E hr h => ?_)
 ·obtain ⟨t, f, sn, bl, ah, ns, ss, rest, at0, rfl, _⟩ := h
  rfl
 obtain ⟨t, f, sn, bl, ah, ns, ss, rest, at0, rfl, hA, hls, hat0, q⟩ := h
 refine ⟨_, (au (aH (aD bG (aD cI aq (aK T.D_ones_at (j6 T) (by decide) hr aJ rfl (aa (pv 0) (aa (pv 1) (aa (pv 2) ao))))) (pv 2)))), ?_⟩
 exact ⟨_, rfl, _, rfl, _, rfl, t, f, sn, bl, ah, ns, ss, rest, at0, rfl, hA, hls, hat0, fun ss' H' w sm => ⟨_, _, rfl, rfl, .inl ⟨by decide, by decide⟩, _, rfl, _, _, rfl, rfl, q ss' H' w sm⟩⟩
def yN : Sp := fun vs H Q E => ∃ (t f sn bl ah : Addr) (ns ss : List Int) (rest : List V) (at0 : Nat) (b : Int), vs = [.ref t, .ref f, .int (at0 : Int)] ∧ Ask H t f sn bl ah ns ss rest ∧ ss.length < 1000 ∧ ns[at0]? = some b ∧
 ∀ ss' H', bI (many ns.length) 1 ss ss' → aQ (upd H sn (.lst (ss'.map V.int))) H' → Q (.int b) H'
theorem nC (T : Tx K mg a) : aW P w K mg base CX0 2 a.f_bit_at a.fd_bit_at ["tables", "look", "at"] yN := by
 refine T.D_bit_at.F.ok yP (fun vs H Q E h => ?_) (fun cdv A outer s H vs Q E hr h => ?_)
 ·obtain ⟨t, f, sn, bl, ah, ns, ss, rest, at0, b, rfl, _⟩ := h
  rfl
 obtain ⟨t, f, sn, bl, ah, ns, ss, rest, at0, b, rfl, hA, hls, hb, q⟩ := h
 have hat0 := (List.getElem?_eq_some_iff.mp hb).1
 refine ⟨_, (aj (bj (aK T.D_check_place (di T) (by decide) hr aJ rfl (aa (pv 2) (aa (aD bG (aR bA (pv 0) aq (fun _ _ => rfl)) aq) ao))))
  (au (aH (aK T.D_bit_in (rn T) (by decide) hr aJ rfl (aa (dY ((dW T).mono (by decide)) hr (i := 1) rfl (aa (aD bM (pv 2) (bc (v := .int 32) rfl T.c_BLOCK_BITS ⟨_, rfl⟩)) ao)) (aa (aD bQ (pv 2) (bc (v := .int 32) rfl T.c_BLOCK_BITS ⟨_, rfl⟩)) ao)))))), ?_⟩
 refine ⟨_, rfl, _, rfl, t, _, _, _, rfl, rfl, SqT.of hA.tab.tup, iT _ _ _ hA.tab.few, _, _, rfl, rfl, _, _, rfl, by omega, by omega, ?_⟩
 obtain ⟨o, fd, e1, g1⟩ := hA.asks.look.fn
 have hm : at0 / 32 < many ns.length := by
  unfold many
  omega
 have hg : ((dw ns).map V.int)[at0 / 32]? = some (.int (bU ns (at0 / 32))) := by
  rw [List.getElem?_map, dJ hm]
  rfl
 have ej : (at0 : Int) / 32 = ((at0 / 32 : Nat) : Int) := by omega
 refine ⟨f, o, fd, rfl, e1, g1, _, rfl, _, _, rfl, rfl, ⟨by decide, by decide⟩, e1, sn, bl, ss, _, at0 / 32, _, congrArg (fun v => [v]) (congrArg V.int ej), hA.asks, hls, hg, ?_⟩
 refine ⟨_, rfl, _, _, rfl, rfl, (by show (0 : Int) < 32; decide), _, _, rfl, (show 0 ≤ (at0 : Int) % 32 from by omega), ?_⟩
 rw [show bit (bU ns (at0 / 32)) ((at0 : Int) % 32).toNat = b from by rw [show ((at0 : Int) % 32).toNat = at0 % 32 from by omega, bit_at hA.bits _ _ (by omega), show 32 * (at0 / 32) + at0 % 32 = at0 from by omega, hb]; rfl]
 exact q _ _ (bI.one ss (i := ((at0 / 32 : Nat) : Int)) (by omega) (by omega)) (aQ.refl _)
def Ed (K : PySem.W.Frag) : Sp := fun vs H Q _ => ∃ (p : Addr) (ns : List Int) (goal : Int), vs = [.ref p, .int goal] ∧ SqT K H p (ns.map V.int) ∧ 0 < ns.length ∧ ns.length ≤ 4096 ∧
 ∀ lo : Nat, lo < ns.length → (lo = 0 ∨ ∃ x, ns[lo]? = some x ∧ x ≤ goal) → (lo + 1 = ns.length ∨ ∃ x, ns[lo + 1]? = some x ∧ goal < x) → Q (.int (lo : Int)) H
theorem lr (T : Tx K mg a) : aW P w K mg base CX0 1 a.f_last_no_greater a.fd_last_no_greater ["numbers", "goal"] (Ed K) := by
 refine T.D_last_no_greater.F.ok bH (fun vs H Q E h => ?_) (fun cdv A outer s H vs Q E hr h => ?_)
 ·obtain ⟨p, ns, goal, rfl, _⟩ := h
  rfl
 obtain ⟨p, ns, goal, rfl, hS, h0, hl, q⟩ := h
 refine ⟨_, (aj (aG (i := 2) bH.nd rfl (Or.inl rfl) aq)
  (aj (aG (i := 3) bH.nd rfl (Or.inl rfl) (aV aP rfl T.b_len Tw.cu (aa (pv 0) ao)))
  (aj (il PassesOwn.never (aL ig (aD bG (pv 3) (pv 2)) aq (aN _)) (aj (aG (i := 4) bH.nd rfl (Or.inl rfl) (aD bM (aD bF (pv 2) (pv 3)) aq))
  (au (aZ (aL jc (aR bA (pv 0) (pv 4) (fun _ _ => rfl)) (pv 1) (aN _)) (au (aG (i := 2) bH.nd rfl (Or.inl rfl) (pv 4))) (au (aG (i := 3) bH.nd rfl (Or.inl rfl) (pv 4)))))))
  (au (aH (pv 2)))))), ?_⟩
 refine ⟨_, rfl, p, _, rfl, .inr hS, ?_⟩
 refine ⟨fun m σ H' => ∃ (lo hi : Nat) (k : Option V), σ = [some (.ref p), some (.int goal), some (.int (lo : Int)), some (.int (hi : Int)), k] ∧ H' = H ∧ m = hi - lo ∧ lo < hi ∧ hi ≤ ns.length ∧ (lo = 0 ∨ ∃ x, ns[lo]? = some x ∧ x ≤ goal) ∧ (hi = ns.length ∨ ∃ x, ns[hi]? = some x ∧ goal < x), ⟨_, 0, ns.length, none, ?_, rfl, rfl, h0, Nat.le_refl _, .inl rfl, .inl rfl⟩, ?_⟩
 ·rw [List.length_map]
  rfl
 rintro m σ H' ⟨lo, hi, k, rfl, rfl, rfl, hlt, hle, h1, h2⟩
 refine ⟨_, rfl, _, rfl, _, _, rfl, rfl, _, _, rfl, rfl, _, rfl, bW (fun c => ?_) fun c => ?_⟩
 ·have c : (1 : Int) < (hi : Int) - (lo : Int) := of_decide_eq_true c
  refine ⟨_, fun σ' H2 z => z, ?_⟩
  have em : ((lo : Int) + (hi : Int)) / 2 = (((lo + hi) / 2 : Nat) : Int) := by omega
  have hm : (lo + hi) / 2 < ns.length := by omega
  have hg : ns[(lo + hi) / 2]? = some ns[(lo + hi) / 2] := List.getElem?_eq_getElem hm
  have hat : atI (ns.map V.int) (((lo : Int) + (hi : Int)) / 2) = some (.int ns[(lo + hi) / 2]) := by
   rw [em]
   exact o6 hg
  refine ⟨_, rfl, _, rfl, _, _, rfl, rfl, _, _, rfl, rfl, ⟨by decide, by decide⟩, ?_⟩
  refine ⟨_, rfl, _, rfl, p, _, _, _, rfl, rfl, hS, hat, _, rfl, _, _, rfl, rfl, _, rfl, bW (fun d => ?_) fun d => ?_⟩
  ·have d := of_decide_eq_true d
   refine ⟨_, rfl, hi - (lo + hi) / 2, by omega, (lo + hi) / 2, hi, some (.int (((lo : Int) + (hi : Int)) / 2)), ?_, rfl, rfl, by omega, hle, .inr ⟨_, hg, d⟩, h2⟩
   rw [← em]
   rfl
  ·have d : ¬ ns[(lo + hi) / 2] ≤ goal := fun z => d (decide_eq_true z)
   refine ⟨_, rfl, (lo + hi) / 2 - lo, by omega, lo, (lo + hi) / 2, some (.int (((lo : Int) + (hi : Int)) / 2)), ?_, rfl, rfl, by omega, by omega, h1, .inr ⟨_, hg, by omega⟩⟩
   rw [← em]
   rfl
 ·have c : ¬ (1 : Int) < (hi : Int) - (lo : Int) := fun z => c (decide_eq_true z)
  have e : hi = lo + 1 := by omega
  subst e
  exact ⟨_, rfl, q lo (by omega) h1 h2⟩
def sW : Sp := fun vs H Q E => ∃ nth many : Int, vs = [.int nth, .int many] ∧ 0 ≤ nth ∧ nth < many ∧ Q .non H
theorem tD (T : Tx K mg a) : aW P w K mg base CX0 1 a.f_check_nth a.fd_check_nth ["nth", "many"] sW := by
 refine T.D_check_nth.F.ok tO (fun vs H Q E h => ?_) (fun cdv A outer s H vs Q E hr h => ?_)
 ·obtain ⟨p, m, rfl, _⟩ := h
  rfl
 obtain ⟨nth, mny, rfl, h0, h1, q⟩ := h
 refine ⟨_, (au (aZ (PW.pt (pK (aL jd (pv 0) aq (aN _)) (pA (aL vI (pv 0) (pv 1) (aN _))))) (au cN) aO)), ?_⟩
 refine ⟨_, rfl, _, _, rfl, rfl, _, rfl, bW (fun c => ?_) fun c => ?_⟩
 ·have c := of_decide_eq_true c
  omega
 refine ⟨_, rfl, _, rfl, _, _, rfl, rfl, _, rfl, bW (fun c2 => ?_) fun c2 => ?_⟩
 ·have c2 := of_decide_eq_true c2
  omega
 exact q
def ug : Sp := fun vs H Q E => ∃ (t f sn bl ah : Addr) (ns ss : List Int) (rest : List V) (nth : Int), vs = [.ref t, .ref f, .int nth] ∧ Ask H t f sn bl ah ns ss rest ∧ ss.length < 1000 ∧ 0 ≤ nth ∧ nth < ns.sum ∧ ∀ (H' : Hp) (p : Nat) (ss' : List Int), ns[p]? = some 1 → (ns.take p).sum = nth → bI (many ns.length) 1 ss ss' → aQ (upd H sn (.lst (ss'.map V.int))) H' → Q (.int (p : Int)) H'
theorem sO (T : Tx K mg a) : aW P w K mg base CX0 4 a.f_one_place a.fd_one_place ["tables", "look", "nth"] ug := by
 refine T.D_one_place.F.ok iV (fun vs H Q E h => ?_) (fun cdv A outer s H vs Q E hr h => ?_)
 ·obtain ⟨t, f, sn, bl, ah, ns, ss, rest, nth, rfl, _⟩ := h
  rfl
 obtain ⟨t, f, sn, bl, ah, ns, ss, rest, nth, rfl, R, hls, p0, p1, q⟩ := h
 have ht := R.tab.tup
 have hah := R.tab.ahs
 have hb := R.bits
 have hl := R.len
 have hM : many ns.length ≤ 128 := by
  unfold many
  omega
 have hall : ns.take (32 * many ns.length) = ns := List.take_of_length_le (by unfold many; omega)
 have hla : atI ((ahd ns (many ns.length)).map V.int) (-1) = some (.int ns.sum) := by
  rw [zY, List.map_append, hall]
  exact pM _ _
 refine ⟨_, (aj (aG (i := 3) iV.nd rfl (Or.inl rfl) (aR bA (pv 0) aq (fun _ _ => rfl)))
  (aj (bj (aK T.D_check_nth (tD T) (by decide) hr aJ rfl (aa (pv 2) (aa (aR bA (pv 3) (my iH aq) (fun _ _ => rfl)) ao))))
  (aj (aG (i := 4) iV.nd rfl (Or.inl rfl) (aK T.D_last_no_greater (lr T) (by decide) hr aJ rfl (aa (pv 3) (aa (pv 2) ao))))
  (au (aH (aD bF (aD cI (bc (v := .int 32) rfl T.c_BLOCK_BITS ⟨_, rfl⟩) (pv 4)) (aK T.D_one_in (yW T) (by decide) hr aJ rfl (aa (dY ((dW T).mono (by decide)) hr (i := 1) rfl (aa (pv 4) ao)) (aa (aD bG (pv 2) (aR bA (pv 3) (pv 4) (fun _ _ => rfl))) ao))))))))), ?_⟩
 refine ⟨_, rfl, t, _, _, _, rfl, rfl, SqT.of ht, o9 _ _ _ R.tab.few, ?_⟩
 refine ⟨_, rfl, _, rfl, _, rfl, ah, _, _, _, rfl, rfl, SqT.of hah, hla, _, _, rfl, p0, p1, ?_⟩
 refine ⟨_, rfl, _, rfl, ah, _, _, rfl, SqT.of hah, (by rw [gn]; omega), (by rw [gn]; omega), fun lo hlo c1 c2 => ?_⟩
 rw [gn] at hlo c2
 have hlo2 : lo < many ns.length := by
  rcases c2 with c2 | ⟨x, e, _⟩
  ·have e : lo = many ns.length := by omega
   rcases c1 with c1 | ⟨x, e2, c1⟩
   ·have e3 : many ns.length = 0 := by omega
    have : ns.sum = 0 := by
     rw [← hall, e3]
     rfl
    omega
   ·rw [lu (by omega)] at e2
    cases e2
    rw [e, hall] at c1
    omega
  ·have := (List.getElem?_eq_some_iff.mp e).1
   rw [gn] at this
   omega
 have d1 : (ns.take (32 * lo)).sum ≤ nth := by
  rcases c1 with c1 | ⟨x, e2, c1⟩
  ·subst c1
   exact p0
  ·rw [lu (by omega)] at e2
   cases e2
   exact c1
 have d2 : nth < (ns.take (32 * lo + 32)).sum := by
  rcases c2 with c2 | ⟨x, e2, c2⟩
  ·omega
  ·rw [lu (by omega)] at e2
   cases e2
   exact c2
 have hat : atI ((ahd ns (many ns.length)).map V.int) (lo : Int) = some (.int (ns.take (32 * lo)).sum) := o6 (lu (by omega))
 have sb := jT hb lo 32 (by omega)
 obtain ⟨k0, hk0, hk1, hk2⟩ := Aa (bU ns lo) (nth - (ns.take (32 * lo)).sum) (by omega) 32 (by omega)
 have hlk : ((dw ns).map V.int)[lo]? = some (.int (bU ns lo)) := by
  rw [List.getElem?_map, dJ hlo2]
  rfl
 obtain ⟨o, fd, e1, g1⟩ := R.asks.look.fn
 have nA : ah ≠ sn := fun z => by rw [z, R.asks.seen] at hah; cases hah
 refine ⟨_, rfl, _, _, rfl, rfl, .inl ⟨by decide, by decide⟩, f, o, fd, rfl, e1, g1, _, rfl, e1, sn, bl, ss, _, lo, _, rfl, R.asks, hls, hlk, ?_⟩
 refine ⟨_, rfl, _, rfl, _, rfl, ah, _, _, _, rfl, rfl, SqT.of (by rw [aC nA]; exact hah), hat, _, _, rfl, rfl, ?_⟩
 refine ⟨_, _, rfl, fun H' sm k hk b1 o1 => ?_, fun H' sm no => absurd ⟨hk1, hk2⟩ (no k0 hk0)⟩
 refine ⟨_, _, rfl, rfl, ?_⟩
 have b1 : bit (bU ns lo) k = 1 := b1
 have o1 : ones (bU ns lo) k = nth - (ns.take (32 * lo)).sum := o1
 have hp : ns[32 * lo + k]? = some 1 := by
  have := bit_at hb lo k hk
  rw [b1] at this
  cases e : ns[32 * lo + k]? with
  | none => rw [e] at this; cases this
  | some x =>
   rw [e] at this
   have this : 1 = x := this
   rw [this]
 have hs : (ns.take (32 * lo + k)).sum = nth := by
  have := jT hb lo k (by omega)
  omega
 have := q H' (32 * lo + k) _ hp hs (bI.one ss (by omega) (by omega)) sm
 rw [show ((32 * lo + k : Nat) : Int) = 32 * (lo : Int) + (k : Int) from by omega] at this
 exact this
theorem jz.out {H : Hp} {f b : Addr} {c : qt} {cs : List Addr} {fvs : List V} {xs : List V} (h : jz H f c cs fvs) (e : H b = some (.tup xs)) : b ∉ cs := fun z => by
 obtain ⟨i, hi⟩ := List.getElem?_of_mem z
 obtain ⟨co, v, u, _, e2, _⟩ := h.cells i b hi
 rw [e] at e2
 cases e2
def Quiet (H : Hp) (f nd : Addr) (xs : List V) : Prop := (∃ cs, jz H f aY cs [.ref nd]) ∧ H nd = some (.tup xs)
theorem Quiet.fn {H : Hp} {f nd : Addr} {xs : List V} (h : Quiet H f nd xs) : ∃ o fd, H f = some (aM f o) ∧ o.data = .func fd := by
 obtain ⟨⟨cs, ca⟩, _⟩ := h
 obtain ⟨cd, pm, ctv, oc, vs, t, h1, _⟩ := ca.ex
 exact ⟨_, _, h1, rfl⟩
theorem Quiet.same {H H' : Hp} {f nd : Addr} {xs : List V} (h : Quiet H f nd xs) (s : aQ H H') : Quiet H' f nd xs := by
 obtain ⟨⟨cs, ca⟩, h2⟩ := h
 exact ⟨⟨cs, ca.same fun b o e => s _ _ e⟩, s _ _ h2⟩
def mY : Addr → Sp := fun f vs H Q _ => ∃ (nd : Addr) (xs : List V) (n : Nat) (x : V), vs = [.int (n : Int)] ∧ Quiet H f nd xs ∧ xs[n]? = some x ∧ Q x H
theorem dF (T : Tx K mg a) : nU P w K mg base 1 mY := by
 refine DW mG (fun _ _ _ _ us hl => match us, hl with | [_], _ => rfl) fun f vs H Q h => ?_
 obtain ⟨nd, xs, n, x, rfl, ⟨⟨cs, ca⟩, h2⟩, hg, q⟩ := h
 have o2 := jz.out ca h2
 refine ⟨rfl, cs, [.ref nd], ca, fun cd A outer s hr => ⟨_, (aR bA (pv 1) (pv 0) (fun _ _ => rfl)), ?_⟩⟩
 have g2 : hide H cs nd = some (.tup xs) := by rw [bK o2]; exact h2
 refine ⟨_, rfl, _, rfl, nd, _, _, _, rfl, rfl, SqT.of g2, bL hg, ?_⟩
 show Q x (over H cs (hide H cs))
 rw [rA]
 exact q
def tu (Pt : Addr) : Sp := fun vs H Q _ => ∃ (t nd : Addr) (x y : V) (xs : List V), vs = [.ref t] ∧ H t = some (.tup [x, y, .ref nd]) ∧ H nd = some (.tup xs) ∧ TabAt H Pt (iz bR) aY.qual ∧
 ∀ f H2, H f = none → fj Pt H H2 → TabAt H2 Pt (iz bR) aY.qual → Quiet H2 f nd xs → Q (.ref f) H2
theorem lZ (T : Tx K mg a) (B : Bs mg base a) : aW P w K mg base CX0 1 a.f_heap_look a.fd_heap_look ["tables"] (tu a.tP_heap_look) := by
 refine Fun.makerL1 (T := aY) (pos := iz bR) T.D_heap_look.F lL tU B.bm T.w_heap_look B.C_heap_look (fun vs H Q E h => ?_) rfl (fun cdv A outer s H vs Q E hr h => ?_)
 ·obtain ⟨t, nd, x, y, xs, rfl, _⟩ := h
  rfl
 obtain ⟨t, nd, x, y, xs, rfl, ht, hn, hT, q⟩ := h
 refine ⟨_, (aG (i := 1) lL.nd rfl (Or.inr rfl) (aR bA (pv 0) aq (fun _ _ => rfl))), ?_⟩
 refine ⟨_, rfl, t, _, _, _, rfl, rfl, SqT.of ht, rfl, ?_⟩
 refine ⟨hT, [.ref nd], fun j m e => ?_, rfl, fun fi cs H2 n1 n2 n3 n4 n5 => q fi H2 n1 n3 n4 ⟨⟨cs, n5⟩, n3 _ _ hn (TabAt.ne hT hn nofun)⟩⟩
 match j, e with
 | 0, e => cases e; exact ⟨_, rfl, rfl⟩
 | j + 1, e => simp at e
def vU : Sp := fun vs H Q _ => ∃ (f nd : Addr) (xs : List V) (ns : List Int) (S s n a0 e : Nat) (g : Int), vs = [.int (S : Int), .ref f, .int (n : Int), .int g, .int (s : Int)] ∧ Quiet H f nd xs ∧ gA ns S 1 xs ∧ ns.length ≤ S ∧ s ≤ 1 ∧ n * 2 ^ e = S + a0 ∧ a0 + 2 ^ e ≤ ns.length ∧ 1 ≤ n ∧ lN xs n ≤ g ∧
 ∀ i : Nat, Hit ns s a0 (a0 + 2 ^ e) g i → Q (.int (i : Int)) H
theorem gY (T : Tx K mg a) : aW P w K mg base CX0 2 a.f_place_beneath a.fd_place_beneath ["size", "look", "node", "goal", "side"] vU := by
 refine T.D_place_beneath.F.ok cT (fun vs H Q E h => ?_) (fun cdv A outer s H vs Q E hr h => ?_)
 ·obtain ⟨f, nd, xs, ns, S, s, n, a0, e, g, rfl, _⟩ := h
  rfl
 obtain ⟨f, nd, xs, ns, S, sd, n, a0, e, g, rfl, hA, hv, hlS, hs, hn, ha, h1, hg, q⟩ := h
 refine ⟨_, (aj (aG (i := 5) cT.nd rfl (Or.inl rfl) (pv 2))
  (aj (il PassesOwn.never (aL jd (pv 5) (pv 0) (aN _)) (aj (aG (i := 5) cT.nd rfl (Or.inl rfl) (aD bF (aD cI aq (pv 5)) (pv 4)))
  (au (aZ (aL ig (dY ((dF T).mono (by decide)) hr (i := 1) rfl (aa (pv 5) ao)) (pv 3) (aN _)) (au (aG (i := 5) cT.nd rfl (Or.inl rfl) (aD bG (aD bF (pv 5) aq) (aD cI aq (pv 4))))) aO))))
  (au (aH (aD bG (pv 5) (pv 0)))))), ?_⟩
 refine ⟨_, rfl, ?_⟩
 refine ⟨fun m σ H' => ∃ (k e' b : Nat), σ = [some (.int (S : Int)), some (.ref f), some (.int (n : Int)), some (.int g), some (.int (sd : Int)), some (.int (k : Int))] ∧ m = e' ∧ qN ns xs S sd a0 (a0 + 2 ^ e) g e' k b ∧ H' = H,
  ⟨_, n, e, a0, rfl, rfl, qN.start hn h1 hg, rfl⟩, ?_⟩
 rintro e' σ H' ⟨k, _, b, rfl, rfl, hd, rfl⟩
 refine ⟨_, rfl, _, rfl, _, _, rfl, rfl, _, rfl, bW (fun c => ?_) fun c => ?_⟩
 ·have c : (k : Int) < (S : Int) := of_decide_eq_true c
  rcases e' with _ | e'
  ·have := (hd.hit hv hlS ha hs).1
   omega
  obtain ⟨v, xv, km, kb, d1, d2⟩ := hd.step hv hlS ha hs
  refine ⟨_, fun σ' H2 z => z, ?_⟩
  refine ⟨_, rfl, _, _, rfl, rfl, .inl ⟨by decide, by decide⟩, _, rfl, _, _, rfl, rfl, ?_⟩
  obtain ⟨o, fd, e1, g1⟩ := hA.fn
  have ek : (2 : Int) * (k : Int) + (sd : Int) = ((2 * k + sd : Nat) : Int) := by omega
  have hone := hd.one
  refine ⟨f, o, fd, rfl, e1, g1, _, rfl, e1, nd, xs, 2 * k + sd, _, ?_, hA, xv, ?_⟩
  ·exact congrArg (fun v => [v]) (congrArg V.int ek)
  refine ⟨_, rfl, _, _, rfl, rfl, _, rfl, bW (fun z => ?_) fun z => ?_⟩
  ·have z : g < v := of_decide_eq_true z
   obtain ⟨b', d'⟩ := d2 z
   refine ⟨_, rfl, _, _, rfl, rfl, _, rfl, _, _, rfl, rfl, .inl ⟨by decide, by decide⟩, _, _, rfl, rfl, e', by omega, 2 * k + 1 - sd, e', b', ?_, rfl, d', rfl⟩
   rw [show ((2 * k + 1 - sd : Nat) : Int) = 2 * (k : Int) + (sd : Int) + 1 - 2 * (sd : Int) from by omega]
   rfl
  ·have z : ¬ g < v := fun y => z (decide_eq_true y)
   obtain ⟨b', d'⟩ := d1 (by omega)
   refine ⟨e', by omega, 2 * k + sd, e', b', ?_, rfl, d', rfl⟩
   rw [← ek]
   rfl
 ·have c : ¬ (k : Int) < (S : Int) := fun y => c (decide_eq_true y)
  rcases e' with _ | e'
  ·obtain ⟨ek, hh⟩ := hd.hit hv hlS ha hs
   refine ⟨_, rfl, _, rfl, _, _, rfl, rfl, ?_⟩
   have := q b hh
   rw [show (b : Int) = (k : Int) - (S : Int) from by omega] at this
   exact this
  ·obtain ⟨v, xv, km, _⟩ := hd.step hv hlS ha hs
   omega
def Be : Sp := fun vs H Q _ => ∃ (f nd : Addr) (xs : List V) (ns : List Int) (S st : Nat) (g : Int), vs = [.int (ns.length : Int), .ref f, .int (st : Int), .int g] ∧ Quiet H f nd xs ∧ ji ns.length S ∧ gA ns S 1 xs ∧ ns.length ≤ 4096 ∧ st ≤ ns.length ∧
 ∀ (x : V) (H' : Hp), aQ H H' → ((x = .non ∧ ∀ j c, st ≤ j → ns[j]? = some c → g < c) ∨ ∃ i : Nat, x = .int (i : Int) ∧ Hit ns 0 st ns.length g i) → Q x H'
theorem mZ (T : Tx K mg a) : aW P w K mg base CX0 3 a.f_first_at_most a.fd_first_at_most ["many", "look", "start", "goal"] Be := by
 refine T.D_first_at_most.F.ok iw (fun vs H Q E h => ?_) (fun cdv A outer s H vs Q E hr h => ?_)
 ·obtain ⟨f, nd, xs, ns, S, st, g, rfl, _⟩ := h
  rfl
 obtain ⟨f, nd, xs, ns, S, st, g, rfl, hA, hSz, hv, hl, h1, q⟩ := h
 refine ⟨_, (aj (cC PassesOwn.never rfl (fJ (aK T.D_cover (vC T) (by decide) hr aJ rfl (aa (pv 0) (aa (pv 2) (aa (pv 0) ao))))) (bh (i := 4) iw.nd rfl (Or.inl rfl)) (au (aZ (aL jc (dY ((dF T).mono (by decide)) hr (i := 1) rfl (aa (pv 4) ao)) (pv 3) (aN _)) (au (aH (aK T.D_place_beneath (gY T) (by decide) hr aJ rfl (aa (aK T.D_size_of (iU T) (by decide) hr aJ rfl (aa (pv 0) ao)) (aa (pv 1) (aa (pv 4) (aa (pv 3) (aa aq ao)))))))) aO)))
  (au (aH fc))), ?_⟩
 have hS0 := hSz.pos
 obtain ⟨h, eS, hlS, hj⟩ := id hSz
 refine ⟨_, rfl, _, rfl, _, rfl, ns.length, st, ns.length, rfl, h1, Nat.le_refl _, hl, fun S' r H1 hS' hr0 sm1 hr1 => ?_⟩
 have := ji.uniq hS' hSz
 subst this
 have ch := nT (st := st) ⟨h, eS⟩ h1 hlS hS0
 obtain ⟨_, v1, _, _⟩ := j9 hv hlS (Nat.le_refl _) ch (Nat.le_refl _)
 have hA1 := hA.same sm1
 refine ⟨r, rfl, ⟨_, SqL.of hr1⟩, ?_⟩
 refine cL (xs := nats (cover S' st ns.length)) (fun i σ H' => (∃ k4, σ = [some (.int (ns.length : Int)), some (.ref f), some (.int (st : Int)), some (.int g), k4]) ∧ H' = H1 ∧ ∃ (b : Nat), Chain S' st ns.length ((cover S' st ns.length).drop i) (S' + b) (S' + ns.length) ∧ st ≤ b ∧ ∀ j c, st ≤ j → j < b → ns[j]? = some c → g < c) ⟨⟨none, rfl⟩, rfl, st, ch, Nat.le_refl _, fun j c j1 j2 => by omega⟩ ?_ ?_ ?_
 ·rintro i σ H' _ ⟨_, rfl, _⟩
  exact SqL.of hr1
 ·rintro i x σ H' hx ⟨⟨k4, rfl⟩, rfl, b, chi, hb, hlow⟩
  unfold nats at hx
  rw [List.getElem?_map] at hx
  obtain ⟨n, hn, rfl⟩ : ∃ n, (cover S' st ns.length)[i]? = some n ∧ x = .int (n : Int) := by
   cases e : (cover S' st ns.length)[i]? with
   | none => rw [e] at hx; cases hx
   | some n => rw [e] at hx; exact ⟨n, rfl, (Option.some.inj hx).symm⟩
  have hi := (List.getElem?_eq_some_iff.mp hn).1
  have hd : (cover S' st ns.length).drop i = n :: (cover S' st ns.length).drop (i + 1) := by
   rw [List.drop_eq_getElem_cons hi]
   congr 1
   exact (List.getElem?_eq_some_iff.mp hn).2
  rw [hd] at chi
  obtain ⟨e, ex, ⟨n1, n2, n3, n4⟩, chn⟩ := chi
  have hp : 0 < 2 ^ e := Nat.two_pow_pos e
  have e5 : (n + 1) * 2 ^ e = S' + (b + 2 ^ e) := by rw [Nat.succ_mul, ex]; omega
  rw [e5] at chn n3
  obtain ⟨w1, w2, w3⟩ := v1 n (List.mem_of_getElem? hn)
  obtain ⟨M, m1, m2, m3⟩ := hv.least hlS e n b ex (by omega) n1
  have ev := fK m1
  obtain ⟨o, fd, e1, g1⟩ := hA1.fn
  refine ⟨f, o, fd, rfl, e1, g1, _, rfl, e1, nd, xs, n, _, rfl, hA1, w3, ?_⟩
  refine ⟨_, rfl, _, _, rfl, rfl, _, rfl, bW (fun z => ?_) fun z => ?_⟩
  ·have z : lN xs n ≤ g := of_decide_eq_true z
   refine ⟨_, rfl, ns.length, rfl, by omega, fun S2 hS2 => ?_⟩
   have := ji.uniq hS2 hSz
   subst this
   refine ⟨_, rfl, _, rfl, _, rfl, f, nd, xs, ns, S2, 0, n, b, e, g, rfl, hA1, hv, hlS, by decide, ex, by omega, n1, z, fun p hh4 => ?_⟩
   refine q _ _ sm1 (.inr ⟨p, rfl, ?_⟩)
   obtain ⟨p1, p2, p3, p4⟩ := hh4
   refine ⟨by omega, by omega, p3, fun j c j1 j2 j3 ec => ?_⟩
   rw [if_pos rfl] at j3
   rcases Nat.lt_or_ge j b with y | y
   ·exact hlow j c j1 y ec
   ·exact p4 j c y (by omega) (by rw [if_pos rfl]; exact j3) ec
  ·have z : ¬ lN xs n ≤ g := fun y => z (decide_eq_true y)
   refine ⟨⟨_, rfl⟩, rfl, b + 2 ^ e, chn, by omega, fun j c j1 j2 ec => ?_⟩
   rcases Nat.lt_or_ge j b with y | y
   ·exact hlow j c j1 y ec
   ·have := m3 j c y j2 ec
    omega
 ·rintro σ H' ⟨⟨k4, rfl⟩, rfl, b, chi, hb, hlow⟩
  have e0 : (nats (cover S' st ns.length)).length = (cover S' st ns.length).length := List.length_map ..
  rw [e0, List.drop_length] at chi
  have chi : S' + b = S' + ns.length := chi
  refine q _ _ sm1 (.inl ⟨rfl, fun j c j1 ec => ?_⟩)
  have := (List.getElem?_eq_some_iff.mp ec).1
  exact hlow j c j1 (by omega) ec
def Bj : Sp := fun vs H Q _ => ∃ (f nd : Addr) (xs : List V) (ns : List Int) (S sp : Nat) (g : Int), vs = [.int (ns.length : Int), .ref f, .int (sp : Int), .int g] ∧ Quiet H f nd xs ∧ ji ns.length S ∧ gA ns S 1 xs ∧ ns.length ≤ 4096 ∧ sp ≤ ns.length ∧
 ∀ (x : V) (H' : Hp), aQ H H' → ((x = .non ∧ ∀ j c, j < sp → ns[j]? = some c → g < c) ∨ ∃ i : Nat, x = .int (i : Int) ∧ Hit ns 1 0 sp g i) → Q x H'
theorem oJ (T : Tx K mg a) : aW P w K mg base CX0 3 a.f_last_at_most a.fd_last_at_most ["many", "look", "stop", "goal"] Bj := by
 refine T.D_last_at_most.F.ok jh (fun vs H Q E h => ?_) (fun cdv A outer s H vs Q E hr h => ?_)
 ·obtain ⟨f, nd, xs, ns, S, sp, g, rfl, _⟩ := h
  rfl
 obtain ⟨f, nd, xs, ns, S, sp, g, rfl, hA, hSz, hv, hl, h1, q⟩ := h
 refine ⟨_, (aj (cC PassesOwn.never rfl (zx rfl T.b_reversed (aa (aK T.D_cover (vC T) (by decide) hr aJ rfl (aa (pv 0) (aa aq (aa (pv 2) ao)))) ao) Tw.jt) (bh (i := 4) jh.nd rfl (Or.inl rfl)) (au (aZ (aL jc (dY ((dF T).mono (by decide)) hr (i := 1) rfl (aa (pv 4) ao)) (pv 3) (aN _)) (au (aH (aK T.D_place_beneath (gY T) (by decide) hr aJ rfl (aa (aK T.D_size_of (iU T) (by decide) hr aJ rfl (aa (pv 0) ao)) (aa (pv 1) (aa (pv 4) (aa (pv 3) (aa aq ao)))))))) aO)))
  (au (aH fc))), ?_⟩
 have hS0 := hSz.pos
 obtain ⟨h, eS, hlS, hj⟩ := id hSz
 refine ⟨_, rfl, _, rfl, ns.length, 0, sp, rfl, Nat.zero_le _, h1, hl, fun S' r H1 hS' hr0 sm1 hr1 => ?_⟩
 have := ji.uniq hS' hSz
 subst this
 have ch := nT (st := 0) ⟨h, eS⟩ (Nat.zero_le sp) (by omega) hS0
 obtain ⟨_, v1, _, _⟩ := j9 hv hlS h1 ch (Nat.le_refl _)
 have hA1 := hA.same sm1
 have e0 : (nats (cover S' 0 sp)).length = (cover S' 0 sp).length := List.length_map ..
 refine ⟨r, _, rfl, SqL.of hr1, ?_⟩
 refine xK (xs := nats (cover S' 0 sp)) (fun i σ H' => (∃ k4, σ = [some (.int (ns.length : Int)), some (.ref f), some (.int (sp : Int)), some (.int g), k4]) ∧ H' = H1 ∧ ∃ (b : Nat), Chain S' 0 sp ((cover S' 0 sp).take ((cover S' 0 sp).length - i)) (S' + 0) (S' + b) ∧ b ≤ sp ∧ ∀ j c, b ≤ j → j < sp → ns[j]? = some c → g < c) ⟨⟨none, rfl⟩, rfl, sp, by rw [Nat.sub_zero, List.take_length]; exact ch, Nat.le_refl _, fun j c j1 j2 => by omega⟩ ?_ ?_ ?_
 ·rintro i σ H' _ ⟨_, rfl, _⟩
  exact SqL.of hr1
 ·rintro i x σ H' hi hx ⟨⟨k4, rfl⟩, rfl, b, chi, hb, hlow⟩
  rw [e0] at hi hx
  unfold nats at hx
  rw [List.getElem?_map] at hx
  obtain ⟨n, hn, rfl⟩ : ∃ n, (cover S' 0 sp)[(cover S' 0 sp).length - 1 - i]? = some n ∧ x = .int (n : Int) := by
   cases e : (cover S' 0 sp)[(cover S' 0 sp).length - 1 - i]? with
   | none => rw [e] at hx; cases hx
   | some n => rw [e] at hx; exact ⟨n, rfl, (Option.some.inj hx).symm⟩
  have et : (cover S' 0 sp).take ((cover S' 0 sp).length - i) = (cover S' 0 sp).take ((cover S' 0 sp).length - (i + 1)) ++ [n] := by
   rw [show (cover S' 0 sp).length - i = ((cover S' 0 sp).length - (i + 1)) + 1 from by omega, List.take_add_one, show (cover S' 0 sp).length - (i + 1) = (cover S' 0 sp).length - 1 - i from by omega, hn]
   rfl
  obtain ⟨y, y1, y2⟩ := ou ((cover S' 0 sp).length - (i + 1)) chi
  have elen : ((cover S' 0 sp).take ((cover S' 0 sp).length - (i + 1))).length = (cover S' 0 sp).length - (i + 1) := by
   rw [List.length_take]
   omega
  rw [et, List.take_append_of_le_length (by rw [elen]; exact Nat.le_refl _), List.take_of_length_le (by rw [elen]; exact Nat.le_refl _)] at y1
  rw [et, List.drop_append_of_le_length (by rw [elen]; exact Nat.le_refl _), List.drop_of_length_le (by rw [elen]; exact Nat.le_refl _), List.nil_append] at y2
  obtain ⟨e, ex, ⟨n1, n2, n3, n4⟩, chn⟩ := y2
  have hy := ur y1
  obtain ⟨a0, rfl⟩ : ∃ a0, y = S' + a0 := ⟨y - S', by omega⟩
  have hp : 0 < 2 ^ e := Nat.two_pow_pos e
  have e5 : (n + 1) * 2 ^ e = S' + (a0 + 2 ^ e) := by rw [Nat.succ_mul, ex]; omega
  have chn : (n + 1) * 2 ^ e = S' + b := chn
  rw [e5] at chn n3
  obtain ⟨w1, w2, w3⟩ := v1 n (List.mem_of_getElem? hn)
  obtain ⟨M, m1, m2, m3⟩ := hv.least hlS e n a0 ex (by omega) n1
  have ev := fK m1
  obtain ⟨o, fd, e1, g1⟩ := hA1.fn
  refine ⟨f, o, fd, rfl, e1, g1, _, rfl, e1, nd, xs, n, _, rfl, hA1, w3, ?_⟩
  refine ⟨_, rfl, _, _, rfl, rfl, _, rfl, bW (fun z => ?_) fun z => ?_⟩
  ·have z : lN xs n ≤ g := of_decide_eq_true z
   refine ⟨_, rfl, ns.length, rfl, by omega, fun S2 hS2 => ?_⟩
   have := ji.uniq hS2 hSz
   subst this
   refine ⟨_, rfl, _, rfl, _, rfl, f, nd, xs, ns, S2, 1, n, a0, e, g, rfl, hA1, hv, hlS, by decide, ex, by omega, n1, z, fun p hh4 => ?_⟩
   refine q _ _ sm1 (.inr ⟨p, rfl, ?_⟩)
   obtain ⟨p1, p2, p3, p4⟩ := hh4
   refine ⟨Nat.zero_le _, by omega, p3, fun j c j1 j2 j3 ec => ?_⟩
   rw [if_neg (by decide)] at j3
   rcases Nat.lt_or_ge j b with y | y
   ·exact p4 j c (by omega) (by omega) (by rw [if_neg (by decide)]; exact j3) ec
   ·exact hlow j c y j2 ec
  ·have z : ¬ lN xs n ≤ g := fun y => z (decide_eq_true y)
   refine ⟨⟨_, rfl⟩, rfl, a0, y1, by omega, fun j c j1 j2 ec => ?_⟩
   rcases Nat.lt_or_ge j b with y | y
   ·have := m3 j c j1 (by omega) ec
    omega
   ·exact hlow j c y j2 ec
 ·rintro σ H' ⟨⟨k4, rfl⟩, rfl, b, chi, hb, hlow⟩
  rw [e0, Nat.sub_self, List.take_zero] at chi
  have chi : S' + 0 = S' + b := chi
  exact q _ _ sm1 (.inl ⟨rfl, fun j c j1 ec => hlow j c (by omega) j1 ec⟩)
structure BP where
 t : Addr
 f : Addr
 sn : Addr
 bl : Addr
 ah : Addr
 nd : Addr
 ns : List Int
 lows : List Int
 S : Nat
 xs : List V
structure Brk (H : Hp) (Ph : Addr) (p : BP) (ss : List Int) : Prop where
 ask : Ask H p.t p.f p.sn p.bl p.ah p.ns ss [.ref p.nd]
 nds : H p.nd = some (.tup p.xs)
 low : xm p.ns p.lows
 sz : ji p.lows.length p.S
 heap : gA p.lows p.S 1 p.xs
 tab : TabAt H Ph (iz bR) aY.qual
structure Did (H H' : Hp) (Ph sn : Addr) (n k : Nat) (ss ss' : List Int) : Prop where
 kp : ∀ b o, H b = some o → b ≠ Ph → b ≠ sn → H' b = some o
 seen : H' sn = some (.lst (ss'.map V.int))
 tab : TabAt H' Ph (iz bR) aY.qual
 wr : bI n k ss ss'
theorem Did.trans {H H1 H2 : Hp} {Ph sn : Addr} {n j k : Nat} {a b c : List Int} (h : Did H H1 Ph sn n j a b) (h' : Did H1 H2 Ph sn n k b c) : Did H H2 Ph sn n (j + k) a c :=
 ⟨fun x o e n1 n2 => h'.kp x o (h.kp x o e n1 n2) n1 n2, h'.seen, h'.tab, h.wr.trans h'.wr⟩
theorem Did.le {H H1 : Hp} {Ph sn : Addr} {n j k : Nat} {a b : List Int} (h : Did H H1 Ph sn n j a b) (hk : j ≤ k) : Did H H1 Ph sn n k a b := ⟨h.kp, h.seen, h.tab, h.wr.le hk⟩
theorem Did.same {H H1 H2 : Hp} {Ph sn : Addr} {n j : Nat} {a b : List Int} (h : Did H H1 Ph sn n j a b) (s : aQ H1 H2) : Did H H2 Ph sn n j a b :=
 ⟨fun x o e n1 n2 => s _ _ (h.kp x o e n1 n2), s _ _ h.seen, TabAt.same h.tab s, h.wr⟩
theorem Brk.self {H : Hp} {Ph : Addr} {p : BP} {ss : List Int} (h : Brk H Ph p ss) (n : Nat) : Did H H Ph p.sn n 0 ss ss := ⟨fun _ _ e _ _ => e, h.ask.asks.seen, h.tab, bI.none ss⟩
theorem Brk.look {H H' : Hp} {Ph : Addr} {p : BP} {ss ss' : List Int} (h : Brk H Ph p ss) {n k : Nat} (w : bI n k ss ss') (s : aQ (L2.upd H p.sn (.lst (ss'.map V.int))) H') : Did H H' Ph p.sn n k ss ss' :=
 ⟨fun x o e n1 n2 => s _ _ (by rw [aC n2]; exact e), s _ _ ak, TabAt.same (TabAt.upd h.tab h.ask.asks.seen) s, w⟩
theorem Brk.did {H H' : Hp} {Ph : Addr} {p : BP} {ss ss' : List Int} {n k : Nat} (h : Brk H Ph p ss) (d : Did H H' Ph p.sn n k ss ss') (hl : ss'.length ≤ 1000) : Brk H' Ph p ss' := by
 have nP : ∀ b o, H b = some o → (∀ ps, o ≠ .tbl ps) → b ≠ Ph := fun b o e n => TabAt.ne h.tab e n
 have nS : ∀ b o, H b = some o → (∀ ps, o ≠ .lst ps) → b ≠ p.sn := fun b o e n z => by
  rw [z, h.ask.asks.seen] at e
  cases e
  exact n _ rfl
 have k1 : ∀ b o, H b = some o → (∀ ps, o ≠ .tbl ps) → (∀ ps, o ≠ .lst ps) → H' b = some o := fun b o e n1 n2 => d.kp b o e (nP b o e n1) (nS b o e n2)
 obtain ⟨cs, ca⟩ := h.ask.asks.look
 exact ⟨⟨⟨k1 _ _ h.ask.tab.tup nofun nofun, k1 _ _ h.ask.tab.ahs nofun nofun, h.ask.tab.few⟩, ⟨⟨cs, ca.same fun b o e => k1 _ _ e nofun nofun⟩, d.seen, d.kp _ _ h.ask.asks.nodes (nP _ _ h.ask.asks.nodes nofun) h.ask.asks.ne.symm, h.ask.asks.ne, hl⟩, h.ask.bits, h.ask.len⟩, k1 _ _ h.nds nofun nofun, h.low, h.sz, h.heap, d.tab⟩
theorem Brk.same {H H' : Hp} {Ph : Addr} {p : BP} {ss : List Int} (h : Brk H Ph p ss) (s : aQ H H') : Brk H' Ph p ss := ⟨h.ask.same s, s _ _ h.nds, h.low, h.sz, h.heap, TabAt.same h.tab s⟩
theorem Brk.lenL {H : Hp} {Ph : Addr} {p : BP} {ss : List Int} (h : Brk H Ph p ss) : p.lows.length = many p.ns.length ∧ many p.ns.length ≤ 128 := ⟨h.low.len, by have := h.ask.len; unfold many; omega⟩
theorem Brk.made {H H' : Hp} {Ph : Addr} {p : BP} {ss : List Int} (h : Brk H Ph p ss) (b : fj Ph H H') (t : TabAt H' Ph (iz bR) aY.qual) (n : Nat) : Did H H' Ph p.sn n 0 ss ss :=
 ⟨fun x o e n1 _ => b x o e n1, b _ _ h.ask.asks.seen (TabAt.ne h.tab h.ask.asks.seen nofun), t, bI.none ss⟩
theorem Did.free {H H' : Hp} {Ph sn l : Addr} {n k : Nat} {ss ss' : List Int} (d : Did H H' Ph sn n k ss ss') (h : H' l = none) : H l = none := by
 cases e : H l with
 | none => rfl
 | some o =>
  by_cases z1 : l = Ph
  ·obtain ⟨ps, h1, _⟩ := d.tab
   rw [z1, h1] at h
   cases h
  by_cases z2 : l = sn
  ·rw [z2, d.seen] at h
   cases h
  rw [d.kp l o e z1 z2] at h
  cases h
def oU : Sp := fun vs H Q _ => ∃ (j at0 : Nat), vs = [.int (j : Int), .int (at0 : Int)] ∧ Q (.int ((at0 - 32 * j : Nat) : Int)) H
theorem oN (T : Tx K mg a) : aW P w K mg base CX0 1 a.f_start_within a.fd_start_within ["number", "at"] oU := by
 refine T.D_start_within.F.ok oX (fun vs H Q E h => ?_) (fun cdv A outer s H vs Q E hr h => ?_)
 ·obtain ⟨j, at0, rfl, _⟩ := h
  rfl
 obtain ⟨j, at0, rfl, q⟩ := h
 refine ⟨_, (au (aH (aV (yU rfl) rfl T.b_max Tw.Dn (aa (aD bG (pv 1) (aD cI (bc (v := .int 32) rfl T.c_BLOCK_BITS ⟨_, rfl⟩) (pv 0))) (aa aq ao))))), ?_⟩
 refine ⟨_, rfl, _, rfl, _, _, rfl, rfl, .inl ⟨by decide, by decide⟩, _, _, rfl, rfl, _, _, rfl, ?_⟩
 have e : (if (at0 : Int) - 32 * (j : Int) < 0 then (0 : Int) else (at0 : Int) - 32 * (j : Int)) = ((at0 - 32 * j : Nat) : Int) := by
  split <;> omega
 rw [← e] at q
 exact q
def pN : Sp := fun vs H Q _ => ∃ (t ah : Addr) (ns : List Int) (rest : List V), vs = [.ref t] ∧ Tab H t ah ns rest ∧ Q (.int (many ns.length : Nat)) H
theorem jo (T : Tx K mg a) : aW P w K mg base CX0 1 a.f_block_count a.fd_block_count ["tables"] pN := by
 refine T.D_block_count.F.ok pR (fun vs H Q E h => ?_) (fun cdv A outer s H vs Q E hr h => ?_)
 ·obtain ⟨t, ah, ns, rest, rfl, _⟩ := h
  rfl
 obtain ⟨t, ah, ns, rest, rfl, hT, q⟩ := h
 refine ⟨_, (au (aH (aD bG (aV aP rfl T.b_len Tw.cu (aa (aR bA (pv 0) aq (fun _ _ => rfl)) ao)) aq))), ?_⟩
 refine ⟨_, rfl, t, _, _, _, rfl, rfl, SqT.of hT.tup, o9 _ _ _ hT.few, ah, _, rfl, .inr (SqT.of hT.ahs), _, _, rfl, rfl, ?_⟩
 have e : (((ahd ns (many ns.length)).map V.int).length : Int) - 1 = ((many ns.length : Nat) : Int) := by
  rw [List.length_map, gn]
  omega
 rw [← e] at q
 exact q
def oR : Sp := fun vs H Q _ => ∃ (j : Nat) (x : V), vs = [.int (j : Int), x] ∧ ((x = .non ∧ Q .non H) ∨ ∃ k : Nat, x = .int (k : Int) ∧ Q (.int ((32 * j + k : Nat) : Int)) H)
theorem jb (T : Tx K mg a) : aW P w K mg base CX0 1 a.f_place_of_bit a.fd_place_of_bit ["number", "within"] oR := by
 refine T.D_place_of_bit.F.ok oH (fun vs H Q E h => ?_) (fun cdv A outer s H vs Q E hr h => ?_)
 ·obtain ⟨j, x, rfl, _⟩ := h
  rfl
 obtain ⟨j, x, rfl, h⟩ := h
 refine ⟨_, (aj (aZ (jl (mW (pv 1))) (au (aH fc)) aO)
  (au (aH (aD bF (aD cI (bc (v := .int 32) rfl T.c_BLOCK_BITS ⟨_, rfl⟩) (pv 0)) (pv 1))))), ?_⟩
 rcases h with ⟨rfl, q⟩ | ⟨k, rfl, q⟩
 ·exact ⟨_, rfl, _, rfl, gR q⟩
 ·refine ⟨_, rfl, _, rfl, bw ⟨_, rfl, _, _, rfl, rfl, .inl ⟨by decide, by decide⟩, _, rfl, _, _, rfl, rfl, ?_⟩⟩
  rw [show ((32 * j + k : Nat) : Int) = 32 * (j : Int) + (k : Int) from by omega] at q
  exact q
def oW : Sp := fun vs H Q _ => ∃ (t f sn bl ah : Addr) (ns ss : List Int) (rest : List V) (j at0 : Nat) (g : Int), vs = [.ref t, .ref f, .int (j : Int), .int (at0 : Int), .int g] ∧ Ask H t f sn bl ah ns ss rest ∧ ss.length < 1000 ∧ 32 * j < ns.length ∧
 ∀ x ss' H', ((x = .non ∧ cg ns (max at0 (32 * j)) (32 * j + wide ns.length j) g) ∨ ∃ k : Nat, x = .int (k : Int) ∧ cR ns (max at0 (32 * j)) (32 * j + wide ns.length j) g k) → bI (many ns.length) 1 ss ss' → aQ (upd H sn (.lst (ss'.map V.int))) H' → Q x H'
theorem jf (T : Tx K mg a) : aW P w K mg base CX0 5 a.f_first_within a.fd_first_within ["tables", "look", "number", "at", "goal"] oW := by
 refine T.D_first_within.F.ok eE (fun vs H Q E h => ?_) (fun cdv A outer s H vs Q E hr h => ?_)
 ·obtain ⟨t, f, sn, bl, ah, ns, ss, rest, j, at0, g, rfl, _⟩ := h
  rfl
 obtain ⟨t, f, sn, bl, ah, ns, ss, rest, j, at0, g, rfl, hA, hls, hj, q⟩ := h
 refine ⟨_, (aj (aG (i := 5) eE.nd rfl (Or.inl rfl) (aK T.D_start_within (oN T) (by decide) hr aJ rfl (aa (pv 2) (aa (pv 3) ao))))
  (aj (aG (i := 6) eE.nd rfl (Or.inl rfl) (aK T.D_end_within (gJ T) (by decide) hr aJ rfl (aa (pv 2) (aa (aR bA (pv 0) aq (fun _ _ => rfl)) ao))))
  (au (aH (aK T.D_place_of_bit (jb T) (by decide) hr aJ rfl (aa (pv 2) (aa (aK T.D_first_low_in (oG T) (by decide) hr aJ rfl (aa (dY ((dW T).mono (by decide)) hr (i := 1) rfl (aa (pv 2) ao)) (aa (pv 5) (aa (pv 6) (aa (aD bG (pv 4) (aK T.D_base_of (j7 T) (by decide) hr aJ rfl (aa (pv 0) (aa (pv 2) ao)))) ao))))) ao))))))), ?_⟩
 obtain ⟨o, fd, e1, g1⟩ := hA.asks.look.fn
 have hm : j < many ns.length := by
  unfold many
  omega
 have hw : wide ns.length j ≤ 32 := by
  unfold wide
  omega
 have hg : ((dw ns).map V.int)[j]? = some (.int (bU ns j)) := by
  rw [List.getElem?_map, dJ hm]
  rfl
 refine ⟨_, rfl, _, rfl, j, at0, rfl, ?_⟩
 refine ⟨_, rfl, _, rfl, t, _, _, _, rfl, rfl, SqT.of hA.tab.tup, iT _ _ _ hA.tab.few, j, ns.length, rfl, Nat.le_of_lt hj, ?_⟩
 refine ⟨_, rfl, f, o, fd, rfl, e1, g1, _, rfl, e1, sn, bl, ss, _, j, _, rfl, hA.asks, hls, hg, ?_⟩
 have hA2 := hA.more (tt := ss ++ [(j : Int)]) (by rw [List.length_append, List.length_singleton]; omega)
 refine ⟨_, rfl, _, rfl, _, rfl, _, rfl, _, rfl, t, ah, ns, rest, j, rfl, hA2.tab, Nat.le_of_lt hm, _, _, rfl, rfl, ?_⟩
 have em : 32 * j + (at0 - 32 * j) = max at0 (32 * j) := by omega
 have w := bI.one (n := many ns.length) ss (i := (j : Int)) (by omega) (by omega)
 refine ⟨bU ns j, at0 - 32 * j, wide ns.length j, g - ht ns (32 * j), rfl, hw, fun H' k sm hd hle => ?_, fun H' sm hno => ?_⟩
 ·have := first_within hA.bits hw hd hle
  rw [em] at this
  exact ⟨j, _, rfl, .inr ⟨k, rfl, q _ _ H' (.inr ⟨_, rfl, this⟩) w sm⟩⟩
 ·have := oh hA.bits hw hno
  rw [em] at this
  exact ⟨j, _, rfl, .inl ⟨rfl, q _ _ H' (.inl ⟨rfl, this⟩) w sm⟩⟩
def qO (Ph : Addr) : Sp := fun vs H Q _ => ∃ (p : BP) (ss : List Int) (at0 : Nat) (g : Int), vs = [.ref p.t, .ref p.f, .int (at0 : Int), .int g] ∧ Brk H Ph p ss ∧ ss.length ≤ 990 ∧ at0 ≤ p.ns.length ∧
 ∀ x ss' H', ((x = .non ∧ cg p.ns at0 p.ns.length g) ∨ ∃ k : Nat, x = .int (k : Int) ∧ cR p.ns at0 p.ns.length g k) → Did H H' Ph p.sn (many p.ns.length) 2 ss ss' → Q x H'
theorem qI (T : Tx K mg a) (B : Bs mg base a) : aW P w K mg base CX0 6 a.f_low_behind a.fd_low_behind ["tables", "look", "at", "goal"] (qO a.tP_heap_look) := by
 refine T.D_low_behind.F.ok dU (fun vs H Q E h => ?_) (fun cdv A outer s H vs Q E hr h => ?_)
 ·obtain ⟨p, ss, at0, g, rfl, _⟩ := h
  rfl
 obtain ⟨p, ss, at0, g, rfl, hB, hls, h1, q⟩ := h
 refine ⟨_, (aj (bj (aK T.D_check_place (di T) (by decide) hr aJ rfl (aa (pv 2) (aa (aR bA (pv 0) aq (fun _ _ => rfl)) ao))))
  (aj (aZ (aL fP (pv 2) (aR bA (pv 0) aq (fun _ _ => rfl)) (aN _)) (au (aH fc)) aO)
  (aj (aG (i := 4) dU.nd rfl (Or.inl rfl) (aD bM (pv 2) (bc (v := .int 32) rfl T.c_BLOCK_BITS ⟨_, rfl⟩)))
  (aj (aG (i := 5) dU.nd rfl (Or.inl rfl) (aK T.D_first_within (jf T) (by decide) hr aJ rfl (aa (pv 0) (aa (pv 1) (aa (pv 4) (aa (pv 2) (aa (pv 3) ao)))))))
  (aj (aZ (jl (xY (pv 5))) (au (aH (pv 5))) aO)
  (aj (aG (i := 6) dU.nd rfl (Or.inl rfl) (aK T.D_first_at_most (mZ T) (by decide) hr aJ rfl (aa (aK T.D_block_count (jo T) (by decide) hr aJ rfl (aa (pv 0) ao)) (aa (aK T.D_heap_look (lZ T B) (by decide) hr aJ rfl (aa (pv 0) ao)) (aa (aD bF (pv 4) aq) (aa (pv 3) ao))))))
  (aj (aZ (jl (mW (pv 6))) (au (aH fc)) aO)
  (au (aH (aK T.D_first_within (jf T) (by decide) hr aJ rfl (aa (pv 0) (aa (pv 1) (aa (pv 6) (aa (pv 2) (aa (pv 3) ao))))))))))))))), ?_⟩
 have hlen := hB.ask.len
 refine ⟨_, rfl, _, rfl, p.t, _, _, _, rfl, rfl, SqT.of hB.ask.tab.tup, rfl, _, _, rfl, by omega, by omega, ?_⟩
 refine ⟨_, rfl, _, rfl, p.t, _, _, _, rfl, rfl, SqT.of hB.ask.tab.tup, rfl, rfl, _, rfl, bW (fun c => ?_) fun c => ?_⟩
 ·have c : V.int (at0 : Int) = V.int (p.ns.length : Int) := of_decide_eq_true c
  injection c with c
  exact q _ ss H (.inl ⟨rfl, cg.empty (by omega)⟩) ((hB.self _).le (by decide))
 have c : (at0 : Int) ≠ (p.ns.length : Int) := fun z => c (decide_eq_true (congrArg V.int z))
 have ef : (at0 : Int) / 32 = ((at0 / 32 : Nat) : Int) := by omega
 refine ⟨_, rfl, _, _, rfl, rfl, ⟨by decide, by decide⟩, ?_⟩
 refine ⟨_, rfl, _, rfl, _, rfl, _, rfl, _, rfl, p.t, p.f, p.sn, p.bl, p.ah, p.ns, ss, _, at0 / 32, at0, g, ?_, hB.ask, by omega, by omega, fun x ss1 H1 hx wr1 s1 => ?_⟩
 ·rw [← ef]
  rfl
 have d1 := hB.look wr1 s1
 have l1 := wr1.len
 have hB1 := hB.did d1 (by omega)
 rw [show max at0 (32 * (at0 / 32)) = at0 from by omega] at hx
 rcases hx with ⟨rfl, hno⟩ | ⟨k, rfl, hf⟩
 rotate_left
 ·refine ⟨_, rfl, _, rfl, gR ⟨_, rfl, q _ ss1 H1 (.inr ⟨k, rfl, hf.wider (by unfold wide; omega)⟩) (d1.le (by decide))⟩⟩
 refine ⟨_, rfl, _, rfl, bw ?_⟩
 obtain ⟨e1, e2⟩ := hB.lenL
 refine ⟨_, rfl, p.t, p.ah, p.ns, _, rfl, hB1.ask.tab, ?_⟩
 refine ⟨_, rfl, p.t, p.nd, _, _, p.xs, rfl, hB1.ask.tab.tup, hB1.nds, hB1.tab, fun fh H5 nf b5 hT5 qu => ?_⟩
 have d5 := d1.trans (hB1.made b5 hT5 (many p.ns.length))
 have hB5 := hB.did d5 (by omega)
 have ev : [V.int ((many p.ns.length : Nat) : Int), .ref fh, .int ((at0 : Int) / 32 + 1), .int g] = [.int (p.lows.length : Int), .ref fh, .int ((at0 / 32 + 1 : Nat) : Int), .int g] := by
  rw [e1, ef]
  rfl
 have hle : at0 / 32 + 1 ≤ many p.ns.length := by
  unfold many
  omega
 refine ⟨_, rfl, _, _, rfl, rfl, _, rfl, fh, p.nd, p.xs, p.lows, p.S, at0 / 32 + 1, g, ev, qu, hB.sz, hB.heap, by omega, by omega, fun x H6 s6 hx => ?_⟩
 have d6 := d5.same s6
 have hB6 := hB5.same s6
 have hno1 : cg p.ns at0 (32 * (at0 / 32 + 1)) g ∨ 32 * (at0 / 32 + 1) > p.ns.length := by
  rcases Nat.lt_or_ge p.ns.length (32 * (at0 / 32 + 1)) with z | z
  ·exact .inr z
  ·rw [show 32 * (at0 / 32) + wide p.ns.length (at0 / 32) = 32 * (at0 / 32 + 1) from by unfold wide; omega] at hno
   exact .inl hno
 rcases hx with ⟨rfl, hall⟩ | ⟨i, rfl, h3, h4, ⟨c5, h5, h5'⟩, h6⟩
 ·refine ⟨_, rfl, _, rfl, gR (q _ ss1 H6 (.inl ⟨rfl, ?_⟩) (d6.le (by decide)))⟩
  rcases hno1 with hno1 | z
  ·refine hno1.join (hB.low.none (i := at0 / 32 + 1) (j := many p.ns.length) (fun t cc t1 t2 e => hall t cc t1 e) ?_ (Nat.le_refl _))
   unfold many
   omega
  ·rw [show 32 * (at0 / 32) + wide p.ns.length (at0 / 32) = p.ns.length from by unfold wide; omega] at hno
   exact hno
 rw [e1] at h4
 have hi : 32 * i < p.ns.length := by
  unfold many at h4
  omega
 have hno1' : cg p.ns at0 (32 * (at0 / 32 + 1)) g := by
  rcases hno1 with z | z
  ·exact z
  ·omega
 refine ⟨_, rfl, _, rfl, bw ?_⟩
 refine ⟨_, rfl, _, rfl, _, rfl, _, rfl, _, rfl, p.t, p.f, p.sn, p.bl, p.ah, p.ns, ss1, _, i, at0, g, rfl, hB6.ask, by omega, hi, fun x ss7 H7 hx wr7 s7 => ?_⟩
 have d7 := d6.trans (hB6.look wr7 s7)
 rw [show max at0 (32 * i) = 32 * i from by omega, show 32 * i + wide p.ns.length i = min (32 * i + 32) p.ns.length from by unfold wide; omega] at hx
 have hno2 : cg p.ns at0 (32 * i) g := hno1'.join (hB.low.none (i := at0 / 32 + 1) (j := i) (fun t cc t1 t2 e => h6 t cc t1 (by rw [e1]; omega) (by rw [if_pos rfl]; exact t2) e) (Nat.le_refl _) (by omega))
 rcases hx with ⟨rfl, hn⟩ | ⟨k, rfl, hf⟩
 ·exact absurd hn (hB.low.some h5 h5')
 ·refine q _ ss7 H7 (.inr ⟨k, rfl, ?_⟩) d7
  exact ((cR.after hno2 hf (by omega)).wider (by omega))
def qC : Sp := fun vs H Q _ => ∃ (t f sn bl ah : Addr) (ns ss : List Int) (rest : List V) (j up : Nat) (g : Int), vs = [.ref t, .ref f, .int (j : Int), .int (up : Int), .int g] ∧ Ask H t f sn bl ah ns ss rest ∧ ss.length < 1000 ∧ 32 * j < up ∧ up ≤ ns.length ∧
 ∀ x ss' H', ((x = .non ∧ cg ns (32 * j) (32 * j + wide up j) g) ∨ ∃ k : Nat, x = .int (k : Int) ∧ gF ns (32 * j) (32 * j + wide up j) g k) → bI (many ns.length) 1 ss ss' → aQ (upd H sn (.lst (ss'.map V.int))) H' → Q x H'
theorem jr (T : Tx K mg a) : aW P w K mg base CX0 5 a.f_last_within a.fd_last_within ["tables", "look", "number", "upto", "goal"] qC := by
 refine T.D_last_within.F.ok jM (fun vs H Q E h => ?_) (fun cdv A outer s H vs Q E hr h => ?_)
 ·obtain ⟨t, f, sn, bl, ah, ns, ss, rest, j, up, g, rfl, _⟩ := h
  rfl
 obtain ⟨t, f, sn, bl, ah, ns, ss, rest, j, up, g, rfl, hA, hls, hj, hup, q⟩ := h
 refine ⟨_, (aj (aG (i := 5) jM.nd rfl (Or.inl rfl) (aK T.D_end_within (gJ T) (by decide) hr aJ rfl (aa (pv 2) (aa (pv 3) ao))))
  (au (aH (aK T.D_place_of_bit (jb T) (by decide) hr aJ rfl (aa (pv 2) (aa (aK T.D_last_low_in (pY T) (by decide) hr aJ rfl (aa (dY ((dW T).mono (by decide)) hr (i := 1) rfl (aa (pv 2) ao)) (aa aq (aa (pv 5) (aa (aD bG (pv 4) (aK T.D_base_of (j7 T) (by decide) hr aJ rfl (aa (pv 0) (aa (pv 2) ao)))) ao))))) ao)))))), ?_⟩
 obtain ⟨o, fd, e1, g1⟩ := hA.asks.look.fn
 have hm : j < many ns.length := by
  unfold many
  omega
 have hw : wide up j ≤ 32 := by
  unfold wide
  omega
 have hg : ((dw ns).map V.int)[j]? = some (.int (bU ns j)) := by
  rw [List.getElem?_map, dJ hm]
  rfl
 refine ⟨_, rfl, _, rfl, j, up, rfl, Nat.le_of_lt hj, ?_⟩
 refine ⟨_, rfl, f, o, fd, rfl, e1, g1, _, rfl, e1, sn, bl, ss, _, j, _, rfl, hA.asks, hls, hg, ?_⟩
 have hA2 := hA.more (tt := ss ++ [(j : Int)]) (by rw [List.length_append, List.length_singleton]; omega)
 refine ⟨_, rfl, _, rfl, _, rfl, _, rfl, t, ah, ns, rest, j, rfl, hA2.tab, Nat.le_of_lt hm, _, _, rfl, rfl, ?_⟩
 have w := bI.one (n := many ns.length) ss (i := (j : Int)) (by omega) (by omega)
 refine ⟨bU ns j, 0, wide up j, g - ht ns (32 * j), rfl, hw, fun H' k sm hd hle => ?_, fun H' sm hno => ?_⟩
 ·exact ⟨j, _, rfl, .inr ⟨k, rfl, q _ _ H' (.inr ⟨_, rfl, last_within hA.bits hw hd hle⟩) w sm⟩⟩
 ·exact ⟨j, _, rfl, .inl ⟨rfl, q _ _ H' (.inl ⟨rfl, oh hA.bits hw hno⟩) w sm⟩⟩
def nj (Ph : Addr) : Sp := fun vs H Q _ => ∃ (p : BP) (ss : List Int) (at0 : Nat) (g : Int), vs = [.ref p.t, .ref p.f, .int ((at0 : Int) - 1), .int g] ∧ Brk H Ph p ss ∧ ss.length ≤ 990 ∧ at0 ≤ p.ns.length + 1 ∧
 ∀ x ss' H', ((x = .non ∧ cg p.ns 0 (at0 - 1) g) ∨ ∃ k : Nat, x = .int (k : Int) ∧ gF p.ns 0 (at0 - 1) g k) → Did H H' Ph p.sn (many p.ns.length) 2 ss ss' → Q x H'
theorem mF (T : Tx K mg a) (B : Bs mg base a) : aW P w K mg base CX0 6 a.f_last_low_upto a.fd_last_low_upto ["tables", "look", "upto", "goal"] (nj a.tP_heap_look) := by
 refine T.D_last_low_upto.F.ok cU (fun vs H Q E h => ?_) (fun cdv A outer s H vs Q E hr h => ?_)
 ·obtain ⟨p, ss, at0, g, rfl, _⟩ := h
  rfl
 obtain ⟨p, ss, at0, g, rfl, hB, hls, h1, q⟩ := h
 refine ⟨_, (aj (aZ (aL jd (pv 2) aq (aN _)) (au (aH fc)) aO)
  (aj (aG (i := 4) cU.nd rfl (Or.inl rfl) (aD bM (aD bG (pv 2) aq) (bc (v := .int 32) rfl T.c_BLOCK_BITS ⟨_, rfl⟩)))
  (aj (aG (i := 5) cU.nd rfl (Or.inl rfl) (aK T.D_last_within (jr T) (by decide) hr aJ rfl (aa (pv 0) (aa (pv 1) (aa (pv 4) (aa (pv 2) (aa (pv 3) ao)))))))
  (aj (aZ (jl (xY (pv 5))) (au (aH (pv 5))) aO)
  (aj (aG (i := 6) cU.nd rfl (Or.inl rfl) (aK T.D_last_at_most (oJ T) (by decide) hr aJ rfl (aa (aK T.D_block_count (jo T) (by decide) hr aJ rfl (aa (pv 0) ao)) (aa (aK T.D_heap_look (lZ T B) (by decide) hr aJ rfl (aa (pv 0) ao)) (aa (pv 4) (aa (pv 3) ao))))))
  (aj (aZ (jl (mW (pv 6))) (au (aH fc)) aO)
  (au (aH (aK T.D_last_within (jr T) (by decide) hr aJ rfl (aa (pv 0) (aa (pv 1) (aa (pv 6) (aa (pv 2) (aa (pv 3) ao)))))))))))))), ?_⟩
 have hlen := hB.ask.len
 refine ⟨_, rfl, _, _, rfl, rfl, _, rfl, bW (fun c => ?_) fun c => ?_⟩
 ·have c : (at0 : Int) - 1 < 1 := of_decide_eq_true c
  exact q _ ss H (.inl ⟨rfl, cg.empty (by omega)⟩) ((hB.self _).le (by decide))
 have c : ¬ (at0 : Int) - 1 < 1 := fun z => c (decide_eq_true z)
 obtain ⟨up, rfl⟩ : ∃ up, at0 = up + 1 := ⟨at0 - 1, by omega⟩
 rw [Nat.add_sub_cancel] at q
 have eu : ((up + 1 : Nat) : Int) - 1 = (up : Int) := by omega
 have ef : (((up + 1 : Nat) : Int) - 1 - 1) / 32 = (((up - 1) / 32 : Nat) : Int) := by omega
 refine ⟨_, rfl, _, _, rfl, rfl, _, _, rfl, rfl, ⟨by decide, by decide⟩, ?_⟩
 refine ⟨_, rfl, _, rfl, _, rfl, _, rfl, _, rfl, p.t, p.f, p.sn, p.bl, p.ah, p.ns, ss, _, (up - 1) / 32, up, g, ?_, hB.ask, by omega, by omega, by omega, fun x ss1 H1 hx wr1 s1 => ?_⟩
 ·rw [← ef, ← eu]
  rfl
 have d1 := hB.look wr1 s1
 have l1 := wr1.len
 have hB1 := hB.did d1 (by omega)
 rw [show 32 * ((up - 1) / 32) + wide up ((up - 1) / 32) = up from by unfold wide; omega] at hx
 rcases hx with ⟨rfl, hno⟩ | ⟨k, rfl, hf⟩
 rotate_left
 ·refine ⟨_, rfl, _, rfl, gR ⟨_, rfl, q _ ss1 H1 (.inr ⟨k, rfl, hf.wider (by omega)⟩) (d1.le (by decide))⟩⟩
 refine ⟨_, rfl, _, rfl, bw ?_⟩
 obtain ⟨e1, e2⟩ := hB.lenL
 refine ⟨_, rfl, p.t, p.ah, p.ns, _, rfl, hB1.ask.tab, ?_⟩
 refine ⟨_, rfl, p.t, p.nd, _, _, p.xs, rfl, hB1.ask.tab.tup, hB1.nds, hB1.tab, fun fh H5 nf b5 hT5 qu => ?_⟩
 have d5 := d1.trans (hB1.made b5 hT5 (many p.ns.length))
 have hB5 := hB.did d5 (by omega)
 have ev : [V.int ((many p.ns.length : Nat) : Int), .ref fh, .int ((((up + 1 : Nat) : Int) - 1 - 1) / 32), .int g] = [.int (p.lows.length : Int), .ref fh, .int (((up - 1) / 32 : Nat) : Int), .int g] := by
  rw [e1, ef]
 have hle : (up - 1) / 32 ≤ many p.ns.length := by
  unfold many
  omega
 refine ⟨_, rfl, _, rfl, fh, p.nd, p.xs, p.lows, p.S, (up - 1) / 32, g, ev, qu, hB.sz, hB.heap, by omega, by omega, fun x H6 s6 hx => ?_⟩
 have d6 := d5.same s6
 have hB6 := hB5.same s6
 rcases hx with ⟨rfl, hall⟩ | ⟨i, rfl, h3, h4, ⟨c5, h5, h5'⟩, h6⟩
 ·refine ⟨_, rfl, _, rfl, gR (q _ ss1 H6 (.inl ⟨rfl, ?_⟩) (d6.le (by decide)))⟩
  have := hB.low.none (i := 0) (j := (up - 1) / 32) (b := 32 * ((up - 1) / 32)) (fun t cc t1 t2 e => hall t cc t2 e) (Nat.le_refl _) (by omega)
  exact this.join hno
 refine ⟨_, rfl, _, rfl, bw ?_⟩
 refine ⟨_, rfl, _, rfl, _, rfl, _, rfl, _, rfl, p.t, p.f, p.sn, p.bl, p.ah, p.ns, ss1, _, i, up, g, ?_, hB6.ask, by omega, by omega, by omega, fun x ss7 H7 hx wr7 s7 => ?_⟩
 ·rw [← eu]
  rfl
 have d7 := d6.trans (hB6.look wr7 s7)
 rw [show 32 * i + wide up i = 32 * (i + 1) from by unfold wide; omega] at hx
 have hno2 : cg p.ns (32 * (i + 1)) up g := (hB.low.none (i := i + 1) (j := (up - 1) / 32) (b := 32 * ((up - 1) / 32)) (fun t cc t1 t2 e => h6 t cc (Nat.zero_le _) t2 (by rw [if_neg (by decide)]; omega) e) (Nat.le_refl _) (by omega)).join hno
 rcases hx with ⟨rfl, hn⟩ | ⟨k, rfl, hf⟩
 ·refine absurd ?_ (hB.low.some h5 h5')
  rw [show min (32 * i + 32) p.ns.length = 32 * (i + 1) from by omega]
  exact hn
 ·exact q _ ss7 H7 (.inr ⟨k, rfl, (gF.ahead hno2 hf (by omega)).wider (by omega)⟩) d7
def sJ (Ph : Addr) : Sp := fun vs H Q _ => ∃ (p : BP) (ss : List Int) (at0 : Nat) (g : Int), vs = [.ref p.t, .ref p.f, .int (at0 : Int), .int g] ∧ Brk H Ph p ss ∧ ss.length ≤ 990 ∧ at0 ≤ p.ns.length ∧
 ∀ x ss' H', ((x = .non ∧ DP p.ns at0 g) ∨ ∃ k : Nat, x = .int (k : Int) ∧ fV p.ns at0 g k) → Did H H' Ph p.sn (many p.ns.length) 2 ss ss' → Q x H'
theorem tL (T : Tx K mg a) (B : Bs mg base a) : aW P w K mg base CX0 7 a.f_low_ahead a.fd_low_ahead ["tables", "look", "at", "goal"] (sJ a.tP_heap_look) := by
 refine T.D_low_ahead.F.ok lA (fun vs H Q E h => ?_) (fun cdv A outer s H vs Q E hr h => ?_)
 ·obtain ⟨p, ss, at0, g, rfl, _⟩ := h
  rfl
 obtain ⟨p, ss, at0, g, rfl, hB, hls, h1, q⟩ := h
 refine ⟨_, (aj (bj (aK T.D_check_place (di T) (by decide) hr aJ rfl (aa (pv 2) (aa (aR bA (pv 0) aq (fun _ _ => rfl)) ao))))
  (aj (aG (i := 4) lA.nd rfl (Or.inl rfl) (aK T.D_last_low_upto (mF T B) (by decide) hr aJ rfl (aa (pv 0) (aa (pv 1) (aa (aD bG (pv 2) aq) (aa (pv 3) ao))))))
  (aj (aZ (PW.pt (lg (jl (mW (pv 4))) (lg (aL ig (pv 2) aq (aN _)) (jV (aL vI (pv 3) aq (aN _)))))) (au (aH aq)) aO)
  (au (aH (pv 4)))))), ?_⟩
 refine ⟨_, rfl, _, rfl, p.t, _, _, _, rfl, rfl, SqT.of hB.ask.tab.tup, rfl, _, _, rfl, by omega, by omega, ?_⟩
 refine ⟨_, rfl, _, rfl, _, rfl, _, _, rfl, rfl, _, rfl, p, ss, at0, g, rfl, hB, hls, by omega, fun x ss1 H1 hx d1 => ?_⟩
 rcases hx with ⟨rfl, hno⟩ | ⟨k, rfl, f1, f2, f3, f4⟩
 rotate_left
 ·refine ⟨_, rfl, _, rfl, bw (bw ⟨_, rfl, q _ ss1 H1 (.inr ⟨k, rfl, by omega, f3, fun i i1 i2 => f4 i i1 (by omega)⟩) d1⟩)⟩
 refine ⟨_, rfl, _, rfl, gR ?_⟩
 refine ⟨_, rfl, _, _, rfl, rfl, _, rfl, bW (fun c1 => ?_) fun c1 => bw ⟨_, rfl, q _ ss1 H1 (.inl ⟨rfl, fun i hi => ?_⟩) d1⟩⟩
 rotate_left
 ·have c1 : ¬ (0 : Int) < (at0 : Int) := fun z => c1 (decide_eq_true z)
  omega
 have c1 : (0 : Int) < (at0 : Int) := of_decide_eq_true c1
 refine ⟨_, rfl, _, _, rfl, rfl, _, rfl, bW (fun c2 => ?_) fun c2 => ⟨_, rfl, q _ ss1 H1 (.inl ⟨rfl, fun i hi => ?_⟩) d1⟩⟩
 ·have c2 : (0 : Int) ≤ g := of_decide_eq_true c2
  have := q _ ss1 H1 (.inr ⟨0, rfl, by omega, by rw [fB]; exact c2, fun i i1 i2 => hno i i1 (by omega)⟩) d1
  exact this
 ·have c2 : ¬ (0 : Int) ≤ g := fun z => c2 (decide_eq_true z)
  rcases Nat.eq_zero_or_pos i with rfl | h0
  ·rw [fB]
   omega
  ·exact hno i h0 (by omega)
def m7 : Sp := fun vs H Q E => ∃ (t f sn bl ah : Addr) (ns ss : List Int) (rest : List V) (at0 : Nat) (b : Int), vs = [.ref t, .ref f, .int (at0 : Int), .int b] ∧ Ask H t f sn bl ah ns ss rest ∧ ss.length < 1000 ∧ ns[at0]? = some b ∧
 ∀ ss' H', bI (many ns.length) 1 ss ss' → aQ (upd H sn (.lst (ss'.map V.int))) H' → Q .non H'
theorem gZ (T : Tx K mg a) : aW P w K mg base CX0 3 a.f_check_bracket a.fd_check_bracket ["tables", "look", "at", "bit"] m7 := by
 refine T.D_check_bracket.F.ok m9 (fun vs H Q E h => ?_) (fun cdv A outer s H vs Q E hr h => ?_)
 ·obtain ⟨t, f, sn, bl, ah, ns, ss, rest, at0, b, rfl, _⟩ := h
  rfl
 obtain ⟨t, f, sn, bl, ah, ns, ss, rest, at0, b, rfl, hA, hls, hb, q⟩ := h
 refine ⟨_, (au (aZ (aL xX (aK T.D_bit_at (nC T) (by decide) hr aJ rfl (aa (pv 0) (aa (pv 1) (aa (pv 2) ao)))) (pv 3) (aN _)) (au cN) aO)), ?_⟩
 exact ⟨_, rfl, _, rfl, _, rfl, t, f, sn, bl, ah, ns, ss, rest, at0, b, rfl, hA, hls, hb, fun ss' H' w sm => ⟨_, rfl, rfl, _, rfl, uF rfl (q ss' H' w sm)⟩⟩
def ww (Ph : Addr) : Sp := fun vs H Q _ => ∃ (p : BP) (ss : List Int) (at0 : Nat), vs = [.ref p.t, .ref p.f, .int (at0 : Int)] ∧ Brk H Ph p ss ∧ ss.length ≤ 980 ∧ Tree p.ns ∧ p.ns[at0]? = some 1 ∧
 ∀ (k : Nat) ss' H', cR p.ns at0 p.ns.length (ht p.ns at0) (k + 1) → Did H H' Ph p.sn (many p.ns.length) 4 ss ss' → Q (.int (k : Int)) H'
theorem wL (T : Tx K mg a) (B : Bs mg base a) : aW P w K mg base CX0 7 a.f_closing a.fd_closing ["tables", "look", "at"] (ww a.tP_heap_look) := by
 refine T.D_closing.F.ok vO (fun vs H Q E h => ?_) (fun cdv A outer s H vs Q E hr h => ?_)
 ·obtain ⟨p, ss, at0, rfl, _⟩ := h
  rfl
 obtain ⟨p, ss, at0, rfl, hB, hls, htr, hb, q⟩ := h
 have hat := (List.getElem?_eq_some_iff.mp hb).1
 refine ⟨_, (aj (bj (aK T.D_check_bracket (gZ T) (by decide) hr aJ rfl (aa (pv 0) (aa (pv 1) (aa (pv 2) (aa aq ao))))))
  (au (aH (aD bG (aK T.D_low_behind (qI T B) (by decide) hr aJ rfl (aa (pv 0) (aa (pv 1) (aa (pv 2) (aa (aK T.D_height (rz T) (by decide) hr aJ rfl (aa (pv 0) (aa (pv 1) (aa (pv 2) ao)))) ao))))) aq)))), ?_⟩
 refine ⟨_, rfl, _, rfl, _, rfl, p.t, p.f, p.sn, p.bl, p.ah, p.ns, ss, _, at0, 1, rfl, hB.ask, by omega, hb, fun ss1 H1 w1 s1 => ?_⟩
 have d1 := hB.look w1 s1
 have l1 := w1.len
 have hB1 := hB.did d1 (by omega)
 refine ⟨_, rfl, _, rfl, _, rfl, _, rfl, _, rfl, _, rfl, p.t, p.f, p.sn, p.bl, p.ah, p.ns, ss1, _, at0, rfl, hB1.ask, by omega, by omega, fun ss2 H2 w2 s2 => ?_⟩
 have d2 := d1.trans (hB1.look w2 s2)
 have l2 := w2.len
 have hB2 := hB.did d2 (by omega)
 refine ⟨p, ss2, at0, ht p.ns at0, rfl, hB2, by omega, by omega, fun x ss3 H3 hx d3 => ?_⟩
 rcases hx with ⟨rfl, hn⟩ | ⟨k, rfl, hf⟩
 ·have := hn p.ns.length hat (Nat.le_refl _)
  rw [htr.2.1] at this
  have := htr.pos (k := at0) (by omega)
  omega
 ·obtain ⟨k, rfl⟩ : ∃ j, k = j + 1 := ⟨k - 1, by have := hf.1; omega⟩
  refine ⟨_, _, rfl, rfl, ?_⟩
  have := q k ss3 H3 hf (d2.trans d3)
  rw [show (k : Int) = ((k + 1 : Nat) : Int) - 1 from by omega] at this
  exact this
def xn (Ph : Addr) : Sp := fun vs H Q _ => ∃ (p : BP) (ss : List Int) (at0 : Nat), vs = [.ref p.t, .ref p.f, .int (at0 : Int)] ∧ Brk H Ph p ss ∧ ss.length ≤ 980 ∧ Tree p.ns ∧ p.ns[at0]? = some 0 ∧
 ∀ (k : Nat) ss' H', fV p.ns at0 (ht p.ns at0 - 1) k → Did H H' Ph p.sn (many p.ns.length) 4 ss ss' → Q (.int (k : Int)) H'
theorem pH (T : Tx K mg a) (B : Bs mg base a) : aW P w K mg base CX0 8 a.f_opening a.fd_opening ["tables", "look", "at"] (xn a.tP_heap_look) := by
 refine T.D_opening.F.ok wF (fun vs H Q E h => ?_) (fun cdv A outer s H vs Q E hr h => ?_)
 ·obtain ⟨p, ss, at0, rfl, _⟩ := h
  rfl
 obtain ⟨p, ss, at0, rfl, hB, hls, htr, hb, q⟩ := h
 have hat := (List.getElem?_eq_some_iff.mp hb).1
 refine ⟨_, (aj (bj (aK T.D_check_bracket (gZ T) (by decide) hr aJ rfl (aa (pv 0) (aa (pv 1) (aa (pv 2) (aa aq ao))))))
  (au (aH (aK T.D_low_ahead (tL T B) (by decide) hr aJ rfl (aa (pv 0) (aa (pv 1) (aa (pv 2) (aa (aD bG (aK T.D_height (rz T) (by decide) hr aJ rfl (aa (pv 0) (aa (pv 1) (aa (pv 2) ao)))) aq) ao)))))))), ?_⟩
 refine ⟨_, rfl, _, rfl, _, rfl, p.t, p.f, p.sn, p.bl, p.ah, p.ns, ss, _, at0, 0, rfl, hB.ask, by omega, hb, fun ss1 H1 w1 s1 => ?_⟩
 have d1 := hB.look w1 s1
 have l1 := w1.len
 have hB1 := hB.did d1 (by omega)
 refine ⟨_, rfl, _, rfl, _, rfl, _, rfl, _, rfl, _, rfl, p.t, p.f, p.sn, p.bl, p.ah, p.ns, ss1, _, at0, rfl, hB1.ask, by omega, by omega, fun ss2 H2 w2 s2 => ?_⟩
 have d2 := d1.trans (hB1.look w2 s2)
 have l2 := w2.len
 have hB2 := hB.did d2 (by omega)
 refine ⟨_, _, rfl, rfl, p, ss2, at0, ht p.ns at0 - 1, rfl, hB2, by omega, by omega, fun x ss3 H3 hx d3 => ?_⟩
 have hbit : 0 < at0 ∧ 0 ≤ ht p.ns at0 - 1 := by
  have h1 := dR hb
  have h2 := htr.pos (k := at0 + 1) (by omega)
  refine ⟨?_, by omega⟩
  rcases Nat.eq_zero_or_pos at0 with rfl | z
  ·rw [fB] at h1
   omega
  ·exact z
 rcases hx with ⟨rfl, hn⟩ | ⟨k, rfl, hf⟩
 ·have := hn 0 hbit.1
  rw [fB] at this
  omega
 ·exact q k ss3 H3 hf (d2.trans d3)
def rZ : Sp := fun vs H Q E => ∃ (p : Addr) (ds : List Int), vs = [.ref p] ∧ H p = some (.lst (ds.map V.int)) ∧ ds.length ≤ 2048 ∧ bT ds ∧ ∀ r t ah nd bl lows S xs H', H bl = none → aQ H H' → H' r = some (.tup [.ref t, .ref bl]) → KB H' t ah nd bl (brk ds 0) lows S xs → Q (.ref r) H'
theorem lM (T : Tx K mg a) : aW P w K mg base CX0 7 a.f_kept_tree a.fd_kept_tree ["depths"] rZ := by
 refine T.D_kept_tree.F.ok uf (fun vs H Q E h => ?_) (fun cdv A outer s H vs Q E hr h => ?_)
 ·obtain ⟨p, ds, rfl, _⟩ := h
  rfl
 obtain ⟨p, ds, rfl, hp, hl, hg, q⟩ := h
 refine ⟨_, (au (aH (aK T.D_kept_brackets (m8 T) (by decide) hr aJ rfl (aa (aK T.D_brackets_of (pU T) (by decide) hr aJ rfl (aa (pv 0) ao)) ao)))), ?_⟩
 refine ⟨_, rfl, p, ds, rfl, hp, hg, hl, fun b H1 hb s1 xb => ?_⟩
 have hbl := iy hg
 exact ⟨b, brk ds 0, rfl, SqL.of xb, by omega, fQ _ _, iu hg, fun r t ah nd bl lows S xs H2 h1 h2 h3 s2 xr kb => q r t ah nd bl lows S xs H2 (s1.free h1) (s1.trans s2) xr kb⟩
def qL : Sp := fun vs H Q _ => ∃ (t ah : Addr) (ns : List Int) (rest : List V), vs = [.ref t] ∧ Tab H t ah ns rest ∧ Q (.int ((ns.length : Int) / 2)) H
theorem qU (T : Tx K mg a) : aW P w K mg base CX0 1 a.f_node_count a.fd_node_count ["tables"] qL := by
 refine T.D_node_count.F.ok qT (fun vs H Q E h => ?_) (fun cdv A outer s H vs Q E hr h => ?_)
 ·obtain ⟨t, ah, ns, rest, rfl, _⟩ := h
  rfl
 obtain ⟨t, ah, ns, rest, rfl, hT, q⟩ := h
 refine ⟨_, (au (aH (aD bM (aR bA (pv 0) aq (fun _ _ => rfl)) aq))), ?_⟩
 exact ⟨_, rfl, t, _, _, _, rfl, rfl, SqT.of hT.tup, iT _ _ _ hT.few, _, _, rfl, rfl, ⟨by decide, by decide⟩, q⟩
def qG (C : Addr) : Sp := fun vs H Q E => ∃ (t ah : Addr) (ns : List Int) (rest : List V) (node : Int), vs = [.ref t, .int node] ∧ Tab H t ah ns rest ∧ ((0 ≤ node ∧ node < (ns.length : Int) / 2 ∧ Q .non H) ∨ ((node < 0 ∨ (ns.length : Int) / 2 ≤ node) ∧ E (.ref C) none H))
theorem qY (T : Tx K mg a) : aW P w K mg base (CX1 P w) 2 a.f_check_node a.fd_check_node ["tables", "node"] (qG a.c_NoNode) := by
 refine T.D_check_node.F.ok1 qM (fun vs H Q E h => ?_) (fun cdv A outer s H vs Q E hr h => ?_)
 ·obtain ⟨t, ah, ns, rest, node, rfl, _⟩ := h
  rfl
 obtain ⟨t, ah, ns, rest, node, rfl, hT, h⟩ := h
 refine ⟨_, (au (aZ (PW.pt (pK (aL jd (pv 1) aq (aN _)) (pA (aL vI (pv 1) (aK T.D_node_count (qU T) (by decide) hr aJ rfl (aa (pv 0) ao)) (aN _))))) (au (zT T.x_NoNode rfl (aa Dk ao))) aO)), ?_⟩
 refine ⟨_, rfl, _, _, rfl, rfl, _, rfl, bW (fun c => ?_) fun c => ?_⟩
 ·have c := of_decide_eq_true c
  rcases h with ⟨h0, _⟩ | ⟨_, q⟩
  ·omega
  ·exact gR ⟨(by show 1 ≤ sizeLine; decide), q⟩
 have c : ¬ node < 0 := fun z => c (decide_eq_true z)
 refine ⟨_, rfl, _, rfl, t, ah, ns, rest, rfl, hT, _, _, rfl, rfl, _, rfl, bW (fun c2 => ?_) fun c2 => ?_⟩
 ·have c2 := of_decide_eq_true c2
  rcases h with ⟨h0, h1, _⟩ | ⟨_, q⟩
  ·omega
  ·exact ⟨(by show 1 ≤ sizeLine; decide), q⟩
 have c2 : ¬ (ns.length : Int) / 2 ≤ node := fun z => c2 (decide_eq_true z)
 rcases h with ⟨_, _, q⟩ | ⟨z, _⟩
 ·exact q
 ·omega
structure Nd (H : Hp) (Ph : Addr) (p : BP) (ss ds : List Int) : Prop where
 b : Brk H Ph p ss
 few : ss.length ≤ 900
 eq : p.ns = brk ds 0
 good : bT ds
theorem Nd.sum {H : Hp} {Ph : Addr} {p : BP} {ss ds : List Int} (h : Nd H Ph p ss ds) : p.ns.sum = ds.length := by
 rw [h.eq]
 exact jC h.good
theorem Nd.len {H : Hp} {Ph : Addr} {p : BP} {ss ds : List Int} (h : Nd H Ph p ss ds) : p.ns.length = 2 * ds.length := by
 rw [h.eq]
 exact iy h.good
def uw (Ph C : Addr) : Sp := fun vs H Q E => ∃ (p : BP) (ss ds : List Int) (node : Int), vs = [.ref p.t, .ref p.f, .int node] ∧ Nd H Ph p ss ds ∧ ((∃ j : Nat, node = (j : Int) ∧ j < ds.length ∧ ∀ (x : Nat) ss' H', p.ns[x]? = some 1 → (p.ns.take x).sum = (j : Int) → Did H H' Ph p.sn (many p.ns.length) 1 ss ss' → Q (.int (x : Int)) H') ∨ ((node < 0 ∨ (ds.length : Int) ≤ node) ∧ E (.ref C) none H))
theorem vq (T : Tx K mg a) : aW P w K mg base (CX1 P w) 5 a.f_place_of a.fd_place_of ["tables", "look", "node"] (uw a.tP_heap_look a.c_NoNode) := by
 refine T.D_place_of.F.ok1 uL (fun vs H Q E h => ?_) (fun cdv A outer s H vs Q E hr h => ?_)
 ·obtain ⟨p, ss, ds, node, rfl, _⟩ := h
  rfl
 obtain ⟨p, ss, ds, node, rfl, hN, h⟩ := h
 refine ⟨_, (aj (bj (aK T.D_check_node (qY T) (by decide) hr Cz rfl (aa (pv 0) (aa (pv 2) ao))))
  (au (aH (aK T.D_one_place (sO T) (by decide) hr aJ rfl (aa (pv 0) (aa (pv 1) (aa (pv 2) ao))))))), ?_⟩
 have hsum := hN.sum
 have hlen := hN.len
 have few := hN.few
 refine ⟨_, rfl, _, rfl, p.t, p.ah, p.ns, _, node, rfl, hN.b.ask.tab, ?_⟩
 rcases h with ⟨j, rfl, hj, q⟩ | ⟨h1, q⟩
 ·exact .inl ⟨by omega, by omega, _, rfl, _, rfl, _, rfl, p.t, p.f, p.sn, p.bl, p.ah, p.ns, ss, [.ref p.nd], (j : Int), rfl, hN.b.ask, by omega, by omega, by omega, fun H1 x ss1 h1 h2 w1 s1 => q x ss1 H1 h1 h2 (hN.b.look w1 s1)⟩
 ·exact .inr ⟨by omega, q⟩
def vQ (Ph : Addr) : Sp := fun vs H Q _ => ∃ (p : BP) (ss : List Int) (at0 : Nat), vs = [.ref p.t, .ref p.f, .int (at0 : Int)] ∧ Brk H Ph p ss ∧ ss.length ≤ 960 ∧ Tree p.ns ∧ ((p.ns[at0]? = some 1 ∧ ∀ ss' H', Did H H' Ph p.sn (many p.ns.length) 2 ss ss' → Q (.int (p.ns.take at0).sum) H') ∨ (p.ns[at0]? = some 0 ∧ ∀ (k : Nat) ss' H', fV p.ns at0 (ht p.ns at0 - 1) k → Did H H' Ph p.sn (many p.ns.length) 6 ss ss' → Q (.int (p.ns.take k).sum) H'))
theorem wW (T : Tx K mg a) (B : Bs mg base a) : aW P w K mg base CX0 9 a.f_node_at a.fd_node_at ["tables", "look", "at"] (vQ a.tP_heap_look) := by
 refine T.D_node_at.F.ok wA (fun vs H Q E h => ?_) (fun cdv A outer s H vs Q E hr h => ?_)
 ·obtain ⟨p, ss, at0, rfl, _⟩ := h
  rfl
 obtain ⟨p, ss, at0, rfl, hB, hl, tr, h⟩ := h
 refine ⟨_, (aj (aZ (aL fP (aK T.D_bit_at (nC T) (by decide) hr aJ rfl (aa (pv 0) (aa (pv 1) (aa (pv 2) ao)))) aq (aN _)) (au (aH (aK T.D_ones_at (j6 T) (by decide) hr aJ rfl (aa (pv 0) (aa (pv 1) (aa (pv 2) ao)))))) aO)
  (au (aH (aK T.D_ones_at (j6 T) (by decide) hr aJ rfl (aa (pv 0) (aa (pv 1) (aa (aK T.D_opening (pH T B) (by decide) hr aJ rfl (aa (pv 0) (aa (pv 1) (aa (pv 2) ao)))) ao))))))), ?_⟩
 rcases h with ⟨hb, q⟩ | ⟨hb, q⟩
 ·have hat := (List.getElem?_eq_some_iff.mp hb).1
  refine ⟨_, rfl, _, rfl, _, rfl, p.t, p.f, p.sn, p.bl, p.ah, p.ns, ss, [.ref p.nd], at0, 1, rfl, hB.ask, by omega, hb, fun ss1 H1 w1 s1 => ?_⟩
  have d1 := hB.look w1 s1
  have l1 := w1.len
  have hB1 := hB.did d1 (by omega)
  refine ⟨rfl, _, rfl, bW (fun _ => ?_) fun z => absurd (by decide) z⟩
  exact ⟨_, rfl, _, rfl, _, rfl, p.t, p.f, p.sn, p.bl, p.ah, p.ns, ss1, [.ref p.nd], at0, rfl, hB1.ask, by omega, by omega, fun ss2 H2 w2 s2 => q ss2 H2 (d1.trans (hB1.look w2 s2))⟩
 ·have hat := (List.getElem?_eq_some_iff.mp hb).1
  refine ⟨_, rfl, _, rfl, _, rfl, p.t, p.f, p.sn, p.bl, p.ah, p.ns, ss, [.ref p.nd], at0, 0, rfl, hB.ask, by omega, hb, fun ss1 H1 w1 s1 => ?_⟩
  have d1 := hB.look w1 s1
  have l1 := w1.len
  have hB1 := hB.did d1 (by omega)
  refine ⟨rfl, _, rfl, bW (fun z => absurd z (by decide)) fun _ => ?_⟩
  refine ⟨_, rfl, _, rfl, _, rfl, _, rfl, _, rfl, p, ss1, at0, rfl, hB1, by omega, tr, hb, fun k ss2 H2 hk d2 => ?_⟩
  have l2 := d2.wr.len
  have hB2 := hB1.did d2 (by omega)
  have := hk.1
  exact ⟨p.t, p.f, p.sn, p.bl, p.ah, p.ns, ss2, [.ref p.nd], k, rfl, hB2.ask, by omega, by omega, fun ss3 H3 w3 s3 => q k ss3 H3 hk ((d1.trans d2).trans (hB2.look w3 s3))⟩
def Kq (Ph sn : Addr) (H X : Hp) : Prop := ∀ b o, H b = some o → b ≠ Ph → b ≠ sn → X b = some o
theorem Kq.trans {Ph sn : Addr} {H X Y : Hp} (h : Kq Ph sn H X) (h' : Kq Ph sn X Y) : Kq Ph sn H Y := fun b o e n1 n2 => h' b o (h b o e n1 n2) n1 n2
theorem Kq.seq {Ph sn a : Addr} {H X : Hp} {ps : Array Value} {xs : List V} (h : Kq Ph sn H X) (hP : H Ph = some (.tbl ps)) (hn : H sn = none) (s : SqL K H a xs) : SqL K X a xs := by
 have n : ∀ o, H a = some o → (∀ ps, o ≠ .tbl ps) → a ≠ Ph ∧ a ≠ sn := fun o e z => ⟨fun y => by rw [y, hP] at e; cases e; exact z _ rfl, aB e hn⟩
 rcases s with (e | ⟨o, e⟩) | e
 ·exact .inl (.inl (h _ _ e (n _ e nofun).1 (n _ e nofun).2))
 ·exact .inl (.inr ⟨o, h _ _ e (n _ e nofun).1 (n _ e nofun).2⟩)
 ·exact .inr e
theorem Brk.ins {H : Hp} {Ph o C dx : Addr} {p : BP} {ss : List Int} {fs fs' : List (Str × V)} (h : Brk H Ph p ss) (e : H o = some (.ins C dx fs)) : Brk (L2.upd H o (.ins C dx fs')) Ph p ss := by
 have k : ∀ b u, H b = some u → (∀ gs, u ≠ .ins C dx gs) → L2.upd H o (.ins C dx fs') b = some u := fun b u e2 n => by
  rw [aC (fun z => by rw [z, e] at e2; cases e2; exact n _ rfl)]
  exact e2
 refine ⟨⟨⟨k _ _ h.ask.tab.tup nofun, k _ _ h.ask.tab.ahs nofun, h.ask.tab.few⟩, ⟨?_, k _ _ h.ask.asks.seen nofun, k _ _ h.ask.asks.nodes nofun, h.ask.asks.ne, h.ask.asks.few⟩, h.ask.bits, h.ask.len⟩, k _ _ h.nds nofun, h.low, h.sz, h.heap, ?_⟩
 ·obtain ⟨cs, ca⟩ := h.ask.asks.look
  exact ⟨cs, ca.same fun c u e2 => k _ _ e2 nofun⟩
 ·obtain ⟨ps, h1, h2, h3⟩ := h.tab
  refine ⟨ps, k _ _ h1 nofun, h2, ?_⟩
  rcases h3 with h3 | ⟨cd, oc, vs, t, h4, h5, h6⟩
  ·exact .inl h3
  ·exact .inr ⟨cd, oc, vs, t, h4, k _ _ h5 nofun, h6⟩
abbrev hf (p : BP) (x : Nat) : List (Str × V) := [("tables", .ref p.t), ("look", .ref p.f), ("place", .int (x : Int))]
structure Hnd (H : Hp) (Ph C dx o : Addr) (p : BP) (ss : List Int) (x : Nat) : Prop where
 at_ : H o = some (.ins C dx (hf p x))
 b : Brk H Ph p ss
 tree : Tree p.ns
 lt : x < p.ns.length
theorem Hnd.ne {H : Hp} {Ph C dx o : Addr} {p : BP} {ss : List Int} {x : Nat} (h : Hnd H Ph C dx o p ss x) : o ≠ Ph ∧ o ≠ p.sn := ⟨TabAt.ne h.b.tab h.at_ nofun, fun z => by have := h.at_; rw [z, h.b.ask.asks.seen] at this; cases this⟩
theorem Hnd.did {H H' : Hp} {Ph C dx o : Addr} {p : BP} {ss ss' : List Int} {x n k : Nat} (h : Hnd H Ph C dx o p ss x) (d : Did H H' Ph p.sn n k ss ss') (hl : ss'.length ≤ 1000) : Hnd H' Ph C dx o p ss' x := ⟨d.kp _ _ h.at_ h.ne.1 h.ne.2, h.b.did d (by omega), h.tree, h.lt⟩
theorem Hnd.same {H H' : Hp} {Ph C dx o : Addr} {p : BP} {ss : List Int} {x : Nat} (h : Hnd H Ph C dx o p ss x) (s : aQ H H') : Hnd H' Ph C dx o p ss x := ⟨s _ _ h.at_, h.b.same s, h.tree, h.lt⟩
theorem Hnd.put {H : Hp} {Ph C dx o : Addr} {p : BP} {ss : List Int} {x : Nat} (h : Hnd H Ph C dx o p ss x) {y : Nat} (hy : y < p.ns.length) : Hnd (L2.upd H o (.ins C dx (hf p y))) Ph C dx o p ss y := ⟨ak, h.b.ins h.at_, h.tree, hy⟩
def opn (ns : List Int) (x : Nat) : Bool := decide (ns[x]? = some 1)
theorem Hnd.bit {H : Hp} {Ph C dx o : Addr} {p : BP} {ss : List Int} {x : Nat} (h : Hnd H Ph C dx o p ss x) : (p.ns[x]? = some 1 ∧ opn p.ns x = true) ∨ (p.ns[x]? = some 0 ∧ opn p.ns x = false) := by
 have e := List.getElem?_eq_getElem h.lt
 rcases h.b.ask.bits _ (List.mem_of_getElem? e) with z | z
 ·rw [z] at e
  exact .inr ⟨e, by unfold opn; rw [e]; rfl⟩
 ·rw [z] at e
  exact .inl ⟨e, by unfold opn; rw [e]; rfl⟩
def t7 (C : Addr) : Sp := fun vs H Q _ => ∃ (o dx t f : Addr), vs = [.ref o, .ref t, .ref f] ∧ H o = some (.ins C dx []) ∧ Q .non (upd H o (.ins C dx [("tables", .ref t), ("look", .ref f), ("place", .int 0)]))
theorem rW (T : Tx K mg a) : aW P w K mg base CX0 1 a.f_Hand_init a.fd_Hand_init ["self", "tables", "look"] (t7 a.c_Hand) := by
 refine T.D_Hand_init.F.ok tX (fun vs H Q E h => ?_) (fun cdv A outer s H vs Q E hr h => ?_)
 ·obtain ⟨o, dx, t, f, rfl, _⟩ := h
  rfl
 obtain ⟨o, dx, t, f, rfl, h0, q⟩ := h
 refine ⟨_, (aj (jB (pv 0) (pv 1) rfl)
  (aj (jB (pv 0) (pv 2) rfl)
  (au (jB (pv 0) aq rfl)))), ?_⟩
 refine ⟨_, rfl, _, rfl, o, _, dx, _, rfl, h0, T.cl_Hand, T.na_Hand_tables, by decide, ?_⟩
 refine ⟨_, rfl, _, rfl, o, _, dx, _, rfl, ak, T.cl_Hand, T.na_Hand_look, (by show 1 < 1000; decide), ?_⟩
 rw [jO]
 refine ⟨_, rfl, o, _, dx, _, rfl, ak, T.cl_Hand, T.na_Hand_place, (by show 2 < 1000; decide), ?_⟩
 rw [jO]
 exact q
def tH (Ph C : Addr) : Sp := fun vs H Q _ => ∃ (o dx : Addr) (p : BP) (ss : List Int) (x : Nat), vs = [.ref o] ∧ Hnd H Ph C dx o p ss x ∧ ss.length ≤ 960 ∧ ∀ v ss' H', dC p.ns x v → Did H H' Ph p.sn (many p.ns.length) 6 ss ss' → Q (.int v) H'
theorem fG (T : Tx K mg a) (B : Bs mg base a) : aW P w K mg base CX0 10 a.f_Hand_node a.fd_Hand_node ["self"] (tH a.tP_heap_look a.c_Hand) := by
 refine T.D_Hand_node.F.ok sG (fun vs H Q E h => ?_) (fun cdv A outer s H vs Q E hr h => ?_)
 ·obtain ⟨o, dx, p, ss, x, rfl, _⟩ := h
  rfl
 obtain ⟨o, dx, p, ss, x, rfl, hH, hl, q⟩ := h
 refine ⟨_, (au (aH (aK T.D_node_at (wW T B) (by decide) hr aJ rfl (aa (cH (pv 0) rfl) (aa (cH (pv 0) rfl) (aa (cH (pv 0) rfl) ao)))))), ?_⟩
 refine ⟨_, rfl, o, _, dx, _, _, rfl, hH.at_, T.cl_Hand, T.na_Hand_tables, rfl, _, rfl, o, _, dx, _, _, rfl, hH.at_, T.cl_Hand, T.na_Hand_look, rfl, _, rfl, o, _, dx, _, _, rfl, hH.at_, T.cl_Hand, T.na_Hand_place, rfl, p, ss, x, rfl, hH.b, hl, hH.tree, ?_⟩
 rcases hH.bit with ⟨e, _⟩ | ⟨e, _⟩
 ·exact .inl ⟨e, fun ss1 H1 d => q _ ss1 H1 (.inl ⟨e, rfl⟩) (d.le (by decide))⟩
 ·exact .inr ⟨e, fun k ss1 H1 hk d => q _ ss1 H1 (.inr ⟨e, k, hk, rfl⟩) d⟩
def kh (Ph C : Addr) : Sp := fun vs H Q _ => ∃ (o dx : Addr) (p : BP) (ss : List Int) (x : Nat), vs = [.ref o] ∧ Hnd H Ph C dx o p ss x ∧ ss.length ≤ 960 ∧ ∀ ss' H', Did H H' Ph p.sn (many p.ns.length) 1 ss ss' → Q (.bl (opn p.ns x)) H'
theorem bZ (T : Tx K mg a) : aW P w K mg base CX0 3 a.f_Hand_is_opening a.fd_Hand_is_opening ["self"] (kh a.tP_heap_look a.c_Hand) := by
 refine T.D_Hand_is_opening.F.ok kW (fun vs H Q E h => ?_) (fun cdv A outer s H vs Q E hr h => ?_)
 ·obtain ⟨o, dx, p, ss, x, rfl, _⟩ := h
  rfl
 obtain ⟨o, dx, p, ss, x, rfl, hH, hl, q⟩ := h
 refine ⟨_, (au (aH (o5 fP (aK T.D_bit_at (nC T) (by decide) hr aJ rfl (aa (cH (pv 0) rfl) (aa (cH (pv 0) rfl) (aa (cH (pv 0) rfl) ao)))) aq (aN _)))), ?_⟩
 refine ⟨_, rfl, o, _, dx, _, _, rfl, hH.at_, T.cl_Hand, T.na_Hand_tables, rfl, _, rfl, o, _, dx, _, _, rfl, hH.at_, T.cl_Hand, T.na_Hand_look, rfl, _, rfl, o, _, dx, _, _, rfl, hH.at_, T.cl_Hand, T.na_Hand_place, rfl, p.t, p.f, p.sn, p.bl, p.ah, p.ns, ss, [.ref p.nd], x, ?_⟩
 rcases hH.bit with ⟨e, e2⟩ | ⟨e, e2⟩
 ·refine ⟨1, rfl, hH.b.ask, by omega, e, fun ss1 H1 w1 s1 => ⟨rfl, ?_⟩⟩
  have := q ss1 H1 (hH.b.look w1 s1)
  rw [e2] at this
  exact this
 ·refine ⟨0, rfl, hH.b.ask, by omega, e, fun ss1 H1 w1 s1 => ⟨rfl, ?_⟩⟩
  have := q ss1 H1 (hH.b.look w1 s1)
  rw [e2] at this
  exact this
def uN (Ph : Addr) (p : BP) (ss : List Int) (x : Nat) (k : Nat) (H : Hp) (Q : VK) : Prop := ∀ v ss' H1 r, dC p.ns x v → Did H H1 Ph p.sn (many p.ns.length) k ss ss' → H1 r = none → Q (.ref r) (upd H1 r (.tup [.int v, .bl (opn p.ns x)]))
def uh (Ph C : Addr) : Sp := fun vs H Q _ => ∃ (o dx : Addr) (p : BP) (ss : List Int) (x : Nat), vs = [.ref o] ∧ Hnd H Ph C dx o p ss x ∧ ss.length ≤ 950 ∧ uN Ph p ss x 7 H Q
theorem iW (T : Tx K mg a) (B : Bs mg base a) : aW P w K mg base CX0 11 a.f_Hand_told a.fd_Hand_told ["self"] (uh a.tP_heap_look a.c_Hand) := by
 refine T.D_Hand_told.F.ok sU (fun vs H Q E h => ?_) (fun cdv A outer s H vs Q E hr h => ?_)
 ·obtain ⟨o, dx, p, ss, x, rfl, _⟩ := h
  rfl
 obtain ⟨o, dx, p, ss, x, rfl, hH, hl, q⟩ := h
 refine ⟨_, (au (aH (cZ (aa (bY (pv 0) T.cl_Hand T.M_Hand_node ((fG T B).mono (by decide)) hr T.D_Hand_node.b .nil aJ) (aa (bY (pv 0) T.cl_Hand T.M_Hand_is_opening ((bZ T).mono (by decide)) hr T.D_Hand_is_opening.b .nil aJ) ao))))), ?_⟩
 refine ⟨_, rfl, o, dx, _, rfl, hH.at_, rfl, o, dx, p, ss, x, rfl, hH, by omega, fun v ss1 H1 hv d1 => ?_⟩
 have l1 := d1.wr.len
 have hH1 := hH.did d1 (by omega)
 refine ⟨_, rfl, o, dx, _, rfl, hH1.at_, rfl, o, dx, p, ss1, x, rfl, hH1, by omega, fun ss2 H2 d2 => ⟨(by show 2 ≤ sizeLine; decide), fun r hr' => ?_⟩⟩
 exact q v ss2 H2 r hv (d1.trans d2) hr'
def sV (Ph C : Addr) : Sp := fun vs H Q _ => ∃ (o dx : Addr) (p : BP) (ss : List Int) (x y : Nat), vs = [.ref o] ∧ Hnd H Ph C dx o p ss x ∧ ss.length ≤ 950 ∧ y = (x + 1) % p.ns.length ∧ uN Ph p ss y 7 (upd H o (.ins C dx (hf p y))) Q
theorem tG (T : Tx K mg a) (B : Bs mg base a) : aW P w K mg base CX0 12 a.f_Hand_step a.fd_Hand_step ["self"] (sV a.tP_heap_look a.c_Hand) := by
 refine T.D_Hand_step.F.ok rT (fun vs H Q E h => ?_) (fun cdv A outer s H vs Q E hr h => ?_)
 ·obtain ⟨o, dx, p, ss, x, y, rfl, _⟩ := h
  rfl
 obtain ⟨o, dx, p, ss, x, y, rfl, hH, hl, ey, q⟩ := h
 refine ⟨_, (aj (jB (pv 0) (aD bQ (aD bF (cH (pv 0) rfl) aq) (aR bA (cH (pv 0) rfl) aq (fun _ _ => rfl))) rfl)
  (au (aH (bY (pv 0) T.cl_Hand T.M_Hand_told ((iW T B).mono (by decide)) hr T.D_Hand_told.b .nil aJ)))), ?_⟩
 have hlt := hH.lt
 have ey' : ((x : Int) + 1) % (p.ns.length : Int) = (y : Int) := by
  rw [ey, Int.natCast_emod]
  rfl
 have hy : y < p.ns.length := by
  rw [ey]
  exact Nat.mod_lt _ (by omega)
 refine ⟨_, rfl, o, _, dx, _, _, rfl, hH.at_, T.cl_Hand, T.na_Hand_place, rfl, _, _, rfl, rfl, _, rfl, o, _, dx, _, _, rfl, hH.at_, T.cl_Hand, T.na_Hand_tables, rfl, p.t, _, _, _, rfl, rfl, SqT.of hH.b.ask.tab.tup, iT _ _ _ hH.b.ask.tab.few, _, _, rfl, rfl, (by show (0 : Int) < (p.ns.length : Int); omega), ?_⟩
 set_option simprocs false in dsimp only
 rw [ey']
 refine ⟨_, rfl, o, _, dx, _, rfl, hH.at_, T.cl_Hand, T.na_Hand_place, (by show 3 < 1000; decide), ?_⟩
 have hH1 := hH.put hy
 exact ⟨_, rfl, o, dx, _, rfl, hH1.at_, rfl, o, dx, p, ss, y, rfl, hH1, hl, q⟩
def lC (Ph C : Addr) : Sp := fun vs H Q _ => ∃ (o dx : Addr) (p : BP) (ss : List Int) (x y : Nat), vs = [.ref o] ∧ Hnd H Ph C dx o p ss x ∧ ss.length ≤ 950 ∧ y < p.ns.length ∧ (y + 1) % p.ns.length = x ∧ uN Ph p ss y 7 (upd H o (.ins C dx (hf p y))) Q
theorem lK (T : Tx K mg a) (B : Bs mg base a) : aW P w K mg base CX0 12 a.f_Hand_step_back a.fd_Hand_step_back ["self"] (lC a.tP_heap_look a.c_Hand) := by
 refine T.D_Hand_step_back.F.ok mq (fun vs H Q E h => ?_) (fun cdv A outer s H vs Q E hr h => ?_)
 ·obtain ⟨o, dx, p, ss, x, y, rfl, _⟩ := h
  rfl
 obtain ⟨o, dx, p, ss, x, y, rfl, hH, hl, hy, ey, q⟩ := h
 refine ⟨_, (aj (jB (pv 0) (aD bQ (aD bG (cH (pv 0) rfl) aq) (aR bA (cH (pv 0) rfl) aq (fun _ _ => rfl))) rfl)
  (au (aH (bY (pv 0) T.cl_Hand T.M_Hand_told ((iW T B).mono (by decide)) hr T.D_Hand_told.b .nil aJ)))), ?_⟩
 have hlt := hH.lt
 have ey' : ((x : Int) - 1) % (p.ns.length : Int) = (y : Int) := by
  rcases Nat.lt_or_ge (y + 1) p.ns.length with z | z
  ·rw [Nat.mod_eq_of_lt z] at ey
   rw [Int.emod_eq_of_lt (by omega) (by omega)]
   omega
  ·have e : y + 1 = p.ns.length := by omega
   rw [e, Nat.mod_self] at ey
   subst ey
   have : ((0 : Nat) : Int) - 1 = (y : Int) + (p.ns.length : Int) * (-1) := by omega
   rw [this, Int.add_mul_emod_self_left, Int.emod_eq_of_lt (by omega) (by omega)]
 refine ⟨_, rfl, o, _, dx, _, _, rfl, hH.at_, T.cl_Hand, T.na_Hand_place, rfl, _, _, rfl, rfl, _, rfl, o, _, dx, _, _, rfl, hH.at_, T.cl_Hand, T.na_Hand_tables, rfl, p.t, _, _, _, rfl, rfl, SqT.of hH.b.ask.tab.tup, iT _ _ _ hH.b.ask.tab.few, _, _, rfl, rfl, (by show (0 : Int) < (p.ns.length : Int); omega), ?_⟩
 set_option simprocs false in dsimp only
 rw [ey']
 refine ⟨_, rfl, o, _, dx, _, rfl, hH.at_, T.cl_Hand, T.na_Hand_place, (by show 3 < 1000; decide), ?_⟩
 have hH1 := hH.put hy
 exact ⟨_, rfl, o, dx, _, rfl, hH1.at_, rfl, o, dx, p, ss, y, rfl, hH1, hl, q⟩
def tY (Ph C : Addr) : Sp := fun vs H Q _ => ∃ (o dx : Addr) (p : BP) (ss : List Int) (x : Nat), vs = [.ref o] ∧ Hnd H Ph C dx o p ss x ∧ ss.length ≤ 940 ∧ ∀ y ss1 H1, sy p.ns x y → Did H H1 Ph p.sn (many p.ns.length) 5 ss ss1 → uN Ph p ss1 y 7 (upd H1 o (.ins C dx (hf p y))) Q
theorem rR (T : Tx K mg a) (B : Bs mg base a) : aW P w K mg base CX0 12 a.f_Hand_turn a.fd_Hand_turn ["self"] (tY a.tP_heap_look a.c_Hand) := by
 refine T.D_Hand_turn.F.ok ud (fun vs H Q E h => ?_) (fun cdv A outer s H vs Q E hr h => ?_)
 ·obtain ⟨o, dx, p, ss, x, rfl, _⟩ := h
  rfl
 obtain ⟨o, dx, p, ss, x, rfl, hH, hl, q⟩ := h
 refine ⟨_, (aj (aZ (pJ (bY (pv 0) T.cl_Hand T.M_Hand_is_opening ((bZ T).mono (by decide)) hr T.D_Hand_is_opening.b .nil aJ)) (au (jB (pv 0) (aK T.D_closing (wL T B) (by decide) hr aJ rfl (aa (cH (pv 0) rfl) (aa (cH (pv 0) rfl) (aa (cH (pv 0) rfl) ao)))) rfl)) (au (jB (pv 0) (aK T.D_opening (pH T B) (by decide) hr aJ rfl (aa (cH (pv 0) rfl) (aa (cH (pv 0) rfl) (aa (cH (pv 0) rfl) ao)))) rfl)))
  (au (aH (bY (pv 0) T.cl_Hand T.M_Hand_told ((iW T B).mono (by decide)) hr T.D_Hand_told.b .nil aJ)))), ?_⟩
 refine ⟨_, rfl, o, dx, _, rfl, hH.at_, rfl, o, dx, p, ss, x, rfl, hH, by omega, fun ss1 H1 d1 => ⟨_, rfl, ?_⟩⟩
 have l1 := d1.wr.len
 have hH1 := hH.did d1 (by omega)
 rcases hH1.bit with ⟨e, e2⟩ | ⟨e, e2⟩
 ·rw [e2]
  refine gR ⟨_, rfl, o, _, dx, _, _, rfl, hH1.at_, T.cl_Hand, T.na_Hand_tables, rfl, _, rfl, o, _, dx, _, _, rfl, hH1.at_, T.cl_Hand, T.na_Hand_look, rfl, _, rfl, o, _, dx, _, _, rfl, hH1.at_, T.cl_Hand, T.na_Hand_place, rfl, p, ss1, x, rfl, hH1.b, by omega, hH1.tree, e, fun y ss2 H2 hy d2 => ?_⟩
  have l2 := d2.wr.len
  have hH2 := hH1.did d2 (by omega)
  have m : sy p.ns x y := .inl ⟨e, hy⟩
  refine ⟨_, rfl, o, _, dx, _, rfl, hH2.at_, T.cl_Hand, T.na_Hand_place, (by show 3 < 1000; decide), ?_⟩
  have hH3 := hH2.put m.lt
  exact ⟨_, rfl, o, dx, _, rfl, hH3.at_, rfl, o, dx, p, ss2, y, rfl, hH3, by omega, q y ss2 H2 m (d1.trans d2)⟩
 ·rw [e2]
  refine bw ⟨_, rfl, o, _, dx, _, _, rfl, hH1.at_, T.cl_Hand, T.na_Hand_tables, rfl, _, rfl, o, _, dx, _, _, rfl, hH1.at_, T.cl_Hand, T.na_Hand_look, rfl, _, rfl, o, _, dx, _, _, rfl, hH1.at_, T.cl_Hand, T.na_Hand_place, rfl, p, ss1, x, rfl, hH1.b, by omega, hH1.tree, e, fun y ss2 H2 hy d2 => ?_⟩
  have l2 := d2.wr.len
  have hH2 := hH1.did d2 (by omega)
  have m : sy p.ns x y := .inr ⟨e, hy⟩
  refine ⟨_, rfl, o, _, dx, _, rfl, hH2.at_, T.cl_Hand, T.na_Hand_place, (by show 3 < 1000; decide), ?_⟩
  have hH3 := hH2.put m.lt
  exact ⟨_, rfl, o, dx, _, rfl, hH3.at_, rfl, o, dx, p, ss2, y, rfl, hH3, by omega, q y ss2 H2 m (d1.trans d2)⟩
structure Hdn (H : Hp) (Ph C dx o : Addr) (p : BP) (ss : List Int) (x : Nat) (ds : List Int) : Prop where
 h : Hnd H Ph C dx o p ss x
 eq : p.ns = brk ds 0
 good : bT ds
theorem Hdn.nd {H : Hp} {Ph C dx o : Addr} {p : BP} {ss : List Int} {x : Nat} {ds : List Int} (h : Hdn H Ph C dx o p ss x ds) (hl : ss.length ≤ 900) : Nd H Ph p ss ds := ⟨h.h.b, hl, h.eq, h.good⟩
theorem Hdn.did {H H' : Hp} {Ph C dx o : Addr} {p : BP} {ss ss' : List Int} {x : Nat} {ds : List Int} {n k : Nat} (h : Hdn H Ph C dx o p ss x ds) (d : Did H H' Ph p.sn n k ss ss') (hl : ss'.length ≤ 1000) : Hdn H' Ph C dx o p ss' x ds := ⟨h.h.did d hl, h.eq, h.good⟩
theorem Hdn.same {H H' : Hp} {Ph C dx o : Addr} {p : BP} {ss : List Int} {x : Nat} {ds : List Int} (h : Hdn H Ph C dx o p ss x ds) (s : aQ H H') : Hdn H' Ph C dx o p ss x ds := ⟨h.h.same s, h.eq, h.good⟩
theorem bT.take {ds : List Int} (h : bT ds) {m : Nat} (hm : 1 ≤ m) : bT (ds.take m) := by
 obtain ⟨h1, h2⟩ := h
 refine ⟨by rw [List.getElem?_take, if_pos (show 0 < m by omega)]; exact h1, fun i x y ex ey => ?_⟩
 rw [List.getElem?_take] at ex ey
 split at ey
 ·rw [if_pos (by omega)] at ex
  exact h2 i x y ex ey
 ·cases ey
def wH : Sp := fun vs H Q _ => ∃ (p : Addr) (zs : List Int) (m : Nat), vs = [.ref p, .int (m : Int)] ∧ H p = some (.lst (zs.map V.int)) ∧ zs.length ≤ 63 ∧ 1 ≤ m ∧ ∀ (r : Addr) (H' : Hp) (ds : List Int), H r = none → aQ H H' → H' r = some (.lst (ds.map V.int)) → bT ds → ds.length ≤ m → Q (.ref r) H'
theorem j0 (T : Tx K mg a) : aW P w K mg base CX0 1 a.f_law_depths a.fd_law_depths ["_law_cells", "_law_most"] wH := by
 refine T.D_law_depths.F.ok bJ (fun vs H Q E h => ?_) (fun cdv A outer s H vs Q E hr h => ?_)
 ·obtain ⟨p, zs, m, rfl, _⟩ := h
  rfl
 obtain ⟨p, zs, m, rfl, hS, hl, hm1, q⟩ := h
 refine ⟨_, (aj (aG (i := 2) bJ.nd rfl (Or.inl rfl) (bO (aa aq ao)))
  (aj (cC PassesOwn.never rfl (fJ (pv 0)) (bh (i := 3) bJ.nd rfl (Or.inl rfl)) (aj (aG (i := 4) bJ.nd rfl (Or.inl rfl) (aD bQ (aD cI (pv 3) aq) aq))
  (aj (aG (i := 5) bJ.nd rfl (Or.inl rfl) (aD bF aq (aD bQ (aD bM (pv 4) aq) (aD bF (aR aX (pv 2) (my iH aq) (fun _ _ => rfl)) aq))))
  (aj (aG (i := 6) bJ.nd rfl (Or.inl rfl) aq)
  (aj (aZ (aL ig (aD bQ (pv 4) aq) aq (aN _)) (au (aG (i := 6) bJ.nd rfl (Or.inl rfl) (aD bF aq (aD bQ (aD bQ (aD cI (pv 3) aq) aq) aq)))) aO)
  (au (cC PassesOwn.never rfl (jP rfl T.b_range (aa (pv 6) ao)) (bh (i := 7) bJ.nd rfl (Or.inl rfl)) (aj (bj (fO PySem.F.plainAttrs_list PySem.F.slot_list_append PySem.F.type_list_append bV (pv 2) (aa (pv 5) ao)))
  (au (aZ (aL fP (aD bQ (pv 4) aq) aq (aN _)) (au (aG (i := 5) bJ.nd rfl (Or.inl rfl) (aD bF (pv 5) aq))) aO))))))))))
  (au (aH (ie jQ (pv 2) lD (iB (pv 1))))))), ?_⟩
 refine ⟨(by show 1 ≤ sizeLine; decide), fun r hr' => ?_⟩
 have hpr : upd H r (.lst [.int 0]) p = some (.lst (zs.map V.int)) := aA hr' _ _ _ hS
 refine ⟨_, rfl, p, rfl, ⟨_, SqL.of hpr⟩, ?_⟩
 have ne : r ≠ p := (aB hS hr').symm
 refine cL (xs := zs.map V.int) (fun i σ H' => (∃ (k2 k4 k5 k6 k7 : Option V), σ = [some (.ref p), some (.int (m : Int)), some (.ref r), k2, k4, k5, k6, k7]) ∧ aQ H H' ∧ H' p = some (.lst (zs.map V.int)) ∧ ∃ (es : List Int) (la : Int), H' r = some (.lst ((es ++ [la]).map V.int)) ∧ bT (es ++ [la]) ∧ 0 ≤ la ∧ es.length ≤ 40 * i) ?_ ?_ ?_ ?_
 ·refine ⟨⟨none, none, none, none, none, rfl⟩, aA hr' _, hpr, [], 0, ?_, bT.root, by decide, by simp⟩
  rw [ak]
  rfl
 ·rintro i σ H' _ ⟨_, _, h, _⟩
  exact SqL.of h
 ·rintro i x σ H' hx ⟨⟨k2, k4, k5, k6, k7, rfl⟩, sm, hc1, es, la, hr1, hg, hla0, hn⟩
  obtain ⟨z, hz, rfl⟩ := int_at hx
  have hi := (List.getElem?_eq_some_iff.mp hz).1
  have hla : atI ((es ++ [la]).map V.int) (-1) = some (.int la) := by
   rw [List.map_append]
   exact pM _ _
  refine ⟨_, rfl, _, _, rfl, rfl, .inr ⟨by decide, by decide⟩, _, _, rfl, rfl, (by show (0 : Int) < 2147483647; decide), ?_⟩
  refine ⟨_, rfl, _, _, rfl, rfl, ⟨by decide, by decide⟩, _, rfl, _, rfl, r, _, _, _, rfl, rfl, SqL.of hr1, hla, _, _, rfl, rfl, _, _, rfl, rfl, (by show (0 : Int) < la + 1; omega), _, _, rfl, rfl, ?_⟩
  have b0 := Int.emod_nonneg (z * 48271 % 2147483647 / 8) (show la + 1 ≠ 0 by omega)
  have b1 := Int.emod_lt_of_pos (z * 48271 % 2147483647 / 8) (show (0 : Int) < la + 1 by omega)
  generalize z * 48271 % 2147483647 / 8 % (la + 1) = dd at *
  refine ⟨_, rfl, _, _, rfl, rfl, (by show (0 : Int) < 8; decide), _, _, rfl, rfl, _, rfl, ?_⟩
  refine Dv (fun σ H2 => H2 = H' ∧ ∃ mn : Int, σ = [some (.ref p), some (.int (m : Int)), some (.ref r), some (.int z), some (.int (z * 48271 % 2147483647)), some (.int (1 + dd)), some (.int mn), k7] ∧ 1 ≤ mn ∧ mn ≤ 40) ⟨rfl, _, rfl, by omega, by omega⟩ ?_ (fun _ mm => ?_)
  rotate_left
  ·refine ⟨_, rfl, _, _, rfl, rfl, .inr ⟨by decide, by decide⟩, _, _, rfl, rfl, (by show (0 : Int) < 2147483629; decide), _, _, rfl, rfl, (by show (0 : Int) < 10; decide), _, _, rfl, rfl, ?_⟩
   exact mm _ _ ⟨rfl, 1 + z * 69621 % 2147483629 % 10, rfl, by omega, by omega⟩
  rintro σ2 H2 ⟨rfl, mn, rfl, hm0, hm1'⟩
  refine ⟨_, rfl, _, rfl, by omega, by omega, ?_⟩
  refine rO (fun j σ H3 => (∃ (dp : Int) (k7 : Option V), σ = [some (.ref p), some (.int (m : Int)), some (.ref r), some (.int z), some (.int (z * 48271 % 2147483647)), some (.int dp), some (.int mn), k7] ∧ 1 ≤ dp ∧ aQ H H3 ∧ H3 p = some (.lst (zs.map V.int)) ∧ ∃ (fs : List Int) (lb : Int), H3 r = some (.lst ((fs ++ [lb]).map V.int)) ∧ bT (fs ++ [lb]) ∧ 0 ≤ lb ∧ fs.length = es.length + j ∧ dp ≤ lb + 1)) ?_ ?_ ?_
  ·exact ⟨_, _, rfl, by omega, sm, hc1, es, la, hr1, hg, hla0, rfl, by omega⟩
  ·rintro j σ H3 hj ⟨dp, k7, rfl, hd0, sm3, hc3, fs, lb, hr3, hg3, hlb0, hfl, g0⟩
   have hj' : (j : Int) < 40 := by omega
   refine ⟨_, rfl, .inl ⟨rfl, _, SqL.of hr3⟩, _, rfl, r, _, _, rfl, rfl, hr3, ?_, ?_⟩
   ·rw [List.length_map, List.length_append, List.length_singleton, sizeLine_eq]
    omega
   have sm4 := bN sm3 hr' (.lst ((fs ++ [lb]).map V.int ++ [.int dp]))
   have hc4 : upd H3 r (.lst ((fs ++ [lb]).map V.int ++ [.int dp])) p = some (.lst (zs.map V.int)) := by
    rw [aC (Ne.symm ne)]
    exact hc3
   have hr4 : upd H3 r (.lst ((fs ++ [lb]).map V.int ++ [.int dp])) r = some (.lst ((fs ++ [lb] ++ [dp]).map V.int)) := by
    rw [ak, List.map_append (l₂ := [dp])]
    rfl
   have hg4 : bT (fs ++ [lb] ++ [dp]) := hg3.snoc (by simp) hd0 g0
   have hl4 : (fs ++ [lb]).length = es.length + (j + 1) := by
    rw [List.length_append, List.length_singleton]
    omega
   refine ⟨_, rfl, _, _, rfl, rfl, (by show (0 : Int) < 8; decide), rfl, _, rfl, bW (fun _ => ?_) fun _ => ?_⟩
   ·exact ⟨_, rfl, _, _, rfl, rfl, dp + 1, _, rfl, by omega, sm4, hc4, fs ++ [lb], dp, hr4, hg4, by omega, hl4, by omega⟩
   ·exact ⟨dp, _, rfl, by omega, sm4, hc4, fs ++ [lb], dp, hr4, hg4, by omega, hl4, by omega⟩
  ·rintro σ H3 ⟨dp, k7, rfl, hd0, sm3, hc3, fs, lb, hr3, hg3, hlb0, hfl, g0⟩
   exact ⟨⟨_, _, _, _, _, rfl⟩, sm3, hc3, fs, lb, hr3, hg3, hlb0, by omega⟩
 ·rintro σ H' ⟨⟨k2, k4, k5, k6, k7, rfl⟩, sm, hc1, es, la, hr1, hg, hla0, hn⟩
  refine ⟨_, rfl, _, rfl, _, rfl, r, _, rfl, SqL.of hr1, fun e he => q e _ ((es ++ [la]).take m) (sm.free he) (sm.trans (aA he _)) ?_ (hg.take hm1) (by rw [List.length_take]; omega)⟩
  rw [ak, vR, List.map_take]
structure jN (H : Hp) (ns : List Int) (L : Nat) (xs : List V) : Prop where
 len : xs.length = L
 all : ∀ (i : Nat) (y : V), xs[i]? = some y → ∃ (q : Addr) (v : Int), y = .ref q ∧ H q = some (.tup [.int v, .bl (opn ns i)]) ∧ dC ns i v
theorem jN.kept {H H' : Hp} {ns : List Int} {L : Nat} {xs : List V} (h : jN H ns L xs) (s : ∀ q ys, H q = some (.tup ys) → H' q = some (.tup ys)) : jN H' ns L xs := ⟨h.len, fun i y e => by
 obtain ⟨q, v, e1, e2, e3⟩ := h.all i y e
 exact ⟨q, v, e1, s _ _ e2, e3⟩⟩
theorem jN.snoc {H H' : Hp} {ns : List Int} {L : Nat} {xs : List V} (h : jN H ns L xs) (s : ∀ q ys, H q = some (.tup ys) → H' q = some (.tup ys)) {q : Addr} {v : Int} (e : H' q = some (.tup [.int v, .bl (opn ns L)])) (hv : dC ns L v) : jN H' ns (L + 1) (xs ++ [.ref q]) := by
 refine ⟨by rw [List.length_append, h.len]; rfl, fun i y ey => ?_⟩
 rcases Nat.lt_trichotomy i L with z | z | z
 ·rw [List.getElem?_append_left (by rw [h.len]; exact z)] at ey
  exact (h.kept s).all i y ey
 ·subst z
  rw [← h.len, List.getElem?_append_right (Nat.le_refl _), Nat.sub_self] at ey
  cases ey
  exact ⟨q, v, rfl, e, hv⟩
 ·have := (List.getElem?_eq_some_iff.mp ey).1
  rw [List.length_append, h.len, List.length_singleton] at this
  omega
def BR (H : Hp) (r t : Addr) (ns : List Int) (L : Nat) (X : Hp) : Prop := aQ H X ∧ L ≤ ns.length ∧ ∃ (xs : List V) (ps : List Int), X r = some (.lst xs) ∧ X t = some (.lst (ps.map V.int)) ∧ jN X ns L xs ∧ dN ns L ps
def oZ : Sp := fun vs H Q _ => ∃ (p : Addr) (ds : List Int), vs = [.ref p] ∧ H p = some (.lst (ds.map V.int)) ∧ bT ds ∧ ds.length ≤ 2048 ∧ ∀ (r : Addr) (xs : List V) (H' : Hp), H r = none → aQ H H' → H' r = some (.lst xs) → jN H' (brk ds 0) (brk ds 0).length xs → Q (.ref r) H'
theorem jg (T : Tx K mg a) : aW P w K mg base CX0 1 a.f_law_brackets a.fd_law_brackets ["_law_depths_here"] oZ := by
 refine T.D_law_brackets.F.ok cY (fun vs H Q E h => ?_) (fun cdv A outer s H vs Q E hr h => ?_)
 ·obtain ⟨p, ds, rfl, _⟩ := h
  rfl
 obtain ⟨p, ds, rfl, hp, hg, hl, q⟩ := h
 refine ⟨_, (aj (aG (i := 1) cY.nd rfl (Or.inl rfl) (bO ao))
  (aj (aG (i := 2) cY.nd rfl (Or.inl rfl) (bO ao))
  (aj (cC PassesOwn.never rfl (jP rfl T.b_range (aa (aV aP rfl T.b_len Tw.cu (aa (pv 0) ao)) ao)) (bh (i := 3) cY.nd rfl (Or.inl rfl)) (aj (il PassesOwn.never (aL ig (aV aP rfl T.b_len Tw.cu (aa (pv 2) ao)) (aR aX (pv 0) (pv 3) (fun _ _ => rfl)) (aN _)) (au (bj (fO PySem.F.plainAttrs_list PySem.F.slot_list_append PySem.F.type_list_append bV (pv 1) (aa (cZ (aa (zZ PySem.F.plainAttrs_list PySem.F.slot_list_pop PySem.F.type_list_pop Bb (pv 2)) (aa gm ao))) ao)))))
  (aj (bj (fO PySem.F.plainAttrs_list PySem.F.slot_list_append PySem.F.type_list_append bV (pv 1) (aa (cZ (aa (pv 3) (aa gm ao))) ao)))
  (au (bj (fO PySem.F.plainAttrs_list PySem.F.slot_list_append PySem.F.type_list_append bV (pv 2) (aa (pv 3) ao)))))))
  (aj (il PassesOwn.never (aL ig (aV aP rfl T.b_len Tw.cu (aa (pv 2) ao)) aq (aN _)) (au (bj (fO PySem.F.plainAttrs_list PySem.F.slot_list_append PySem.F.type_list_append bV (pv 1) (aa (cZ (aa (zZ PySem.F.plainAttrs_list PySem.F.slot_list_pop PySem.F.type_list_pop Bb (pv 2)) (aa gm ao))) ao)))))
  (au (aH (pv 1))))))), ?_⟩
 have ern : (ds.map V.int).length = ds.length := List.length_map ..
 have hbl := iy hg
 have hbits := fQ ds 0
 have htr := iu hg
 refine ⟨(by show 0 ≤ sizeLine; decide), fun r hr' => ?_⟩
 have s0 := aA hr' (.lst [])
 refine ⟨(by show 0 ≤ sizeLine; decide), fun t ht' => ?_⟩
 have s1 := s0.trans (aA ht' (.lst []))
 have ht0 := s0.free ht'
 have ntr : r ≠ t := aB ak ht'
 have hd0 : ∀ (k : Nat) (d : Int), ds[k]? = some d → 0 ≤ d := fun k d e => by
  rcases Nat.eq_zero_or_pos k with z | z
  ·subst z
   rw [hg.1] at e
   cases e
   decide
  ·have := hg.one z e
   omega
 have hsum : (brk ds 0).sum = (ds.length : Int) := jC hg
 have shut : ∀ (L : Nat) (X : Hp) (xs : List V) (ps : List Int), aQ H X → X r = some (.lst xs) → X t = some (.lst (ps.map V.int)) → (brk ds 0)[L]? = some 0 → 0 < ps.length → jN X (brk ds 0) L xs → dN (brk ds 0) L ps →
   ∃ v : Int, (ps.map V.int)[(ps.map V.int).length - 1]? = some (.int v) ∧ ∀ z, upd X t (.lst (ps.map V.int).dropLast) z = none → upd (upd X t (.lst (ps.map V.int).dropLast)) z (.tup [.int v, .bl false]) r = some (.lst xs) ∧
   BR H r t (brk ds 0) (L + 1) (upd (upd (upd X t (.lst (ps.map V.int).dropLast)) z (.tup [.int v, .bl false])) r (.lst (xs ++ [.ref z]))) := fun L X xs ps sm xr xt e0 h0 hR hP => by
  obtain ⟨hP', v, ev, hv⟩ := hP.shut e0 h0
  refine ⟨v, by rw [List.length_map, List.getElem?_map, ev]; rfl, fun z hz => ?_⟩
  have nzt : z ≠ t := fun y => by rw [y, ak] at hz; cases hz
  rw [aC nzt] at hz
  have nzr : r ≠ z := aB xr hz
  have ntz : t ≠ z := aB xt hz
  refine ⟨by rw [aC nzr, aC ntr]; exact xr, bN (bN (bN sm ht0 _) (sm.free hz) _) hr' _, (List.getElem?_eq_some_iff.mp e0).1, xs ++ [.ref z], ps.dropLast, ak, ?_, ?_, hP'⟩
  ·rw [aC (Ne.symm ntr), aC ntz, ak, List.map_dropLast]
  ·refine hR.snoc (fun b ys e => ?_) (v := v) ?_ hv
   ·rw [aC (fun y => by rw [y, xr] at e; cases e), aC (aB e hz), aC (fun y => by rw [y, xt] at e; cases e)]
    exact e
   ·rw [aC (Ne.symm nzr), ak]
    unfold opn
    rw [e0]
    rfl
 refine ⟨_, rfl, p, _, rfl, .inl (SqL.of (s1 _ _ hp)), (ds.length : Int), congrArg (fun n : Nat => [V.int (n : Int)]) ern, by omega, by omega, ?_⟩
 rw [Int.toNat_natCast]
 refine rO (n := ds.length) (fun k σ X => ∃ k3 L, σ = [some (.ref p), some (.ref r), some (.ref t), k3] ∧ BR H r t (brk ds 0) L X ∧ ((brk ds 0).take L).sum = (k : Int)) ⟨none, 0, rfl, ⟨s1, Nat.zero_le _, [], [], by rw [aC ntr]; exact ak, ak, ⟨rfl, by simp⟩, dN.nil _⟩, rfl⟩ ?_ ?_
 ·rintro k σ X hk ⟨k3, L, rfl, hX, hsL⟩
  have hdk := List.getElem?_eq_getElem hk
  generalize ds[k] = d at hdk
  have hd := hd0 k d hdk
  refine ⟨fun m σ X => ∃ L, σ = [some (.ref p), some (.ref r), some (.ref t), some (.int (0 + (k : Int)))] ∧ BR H r t (brk ds 0) L X ∧ ((brk ds 0).take L).sum = (k : Int) ∧ m = (brk ds 0).length - L, ⟨_, L, rfl, hX, hsL, rfl⟩, ?_⟩
  rintro m σ X ⟨L, rfl, ⟨sm, hL, xs, ps, xr, xt, hR, hP⟩, hsL, hm⟩
  have hLl : L < (brk ds 0).length := by
   rcases Nat.lt_or_ge L (brk ds 0).length with z | z
   ·exact z
   ·have : L = (brk ds 0).length := by omega
    rw [this, List.take_length, hsum] at hsL
    omega
  have hgo := dN.goes hg hdk hsL hLl
  have hpl := hP.1
  have ix : atI (ds.map V.int) (0 + (k : Int)) = some (.int d) := by
   rw [Int.zero_add]
   exact bL (by rw [List.getElem?_map, hdk]; rfl)
  refine ⟨_, rfl, t, _, rfl, .inl (SqL.of xt), _, rfl, _, rfl, p, _, _, _, rfl, rfl, SqL.of (sm _ _ hp), ix, _, _, rfl, rfl, _, rfl, bW (fun c => ?_) fun c => ?_⟩
  ·have c := of_decide_eq_true c
   rw [List.length_map] at c
   have e0 := hgo.1 (by omega)
   obtain ⟨v, ev, hz⟩ := shut L X xs ps sm xr xt e0 (by omega) hR hP
   refine ⟨_, fun σ' H2 z => z, _, rfl, .inl ⟨rfl, _, SqL.of xr⟩, _, rfl, .inl ⟨rfl, _, SqL.of xt⟩, t, _, _, rfl, rfl, xt, ev, (by show 2 ≤ sizeLine; decide), fun z hz' => ?_⟩
   obtain ⟨xr2, hX2⟩ := hz z hz'
   refine ⟨r, _, _, rfl, rfl, xr2, ?_, ?_⟩
   ·rw [hR.len, sizeLine_eq]
    omega
   ·exact ⟨(brk ds 0).length - (L + 1), by omega, L + 1, rfl, hX2, by rw [dz e0]; omega, rfl⟩
  ·have c : ¬ d < ((ps.map V.int).length : Int) := fun z => c (decide_eq_true z)
   rw [List.length_map] at c
   have e1 := hgo.2 (by omega)
   refine ⟨_, rfl, .inl ⟨rfl, _, SqL.of xr⟩, _, rfl, (by show 2 ≤ sizeLine; decide), fun z hz => ?_⟩
   have nzr : r ≠ z := aB xr hz
   have nzt : t ≠ z := aB xt hz
   have xr2 : upd X z (.tup [.int (0 + (k : Int)), .bl true]) r = some (.lst xs) := by
    rw [aC nzr]
    exact xr
   refine ⟨r, _, _, rfl, rfl, xr2, ?_, ?_⟩
   ·rw [hR.len, sizeLine_eq]
    omega
   have xt3 : upd (upd X z (.tup [.int (0 + (k : Int)), .bl true])) r (.lst (xs ++ [.ref z])) t = some (.lst (ps.map V.int)) := by
    rw [aC (Ne.symm ntr), aC nzt]
    exact xt
   have hht := hP.1
   have hLle : ht (brk ds 0) L ≤ 4096 := by
    have : ht (brk ds 0) L = 2 * ((brk ds 0).take L).sum - (L : Int) := rfl
    omega
   refine ⟨_, rfl, .inl ⟨rfl, _, SqL.of xt3⟩, _, rfl, t, _, _, rfl, rfl, xt3, ?_, ?_⟩
   ·rw [List.length_map, sizeLine_eq]
    omega
   refine ⟨_, L + 1, rfl, ⟨bN (bN (bN sm (sm.free hz) _) hr' _) ht0 _, by omega, xs ++ [.ref z], ps ++ [(k : Int)], ?_, ?_, ?_, ?_⟩, ?_⟩
   ·rw [aC ntr]
    exact ak
   ·rw [ak, List.map_append, Int.zero_add]
    rfl
   ·refine hR.snoc (fun b ys e => ?_) (v := (k : Int)) ?_ (.inl ⟨e1, hsL.symm⟩)
    ·rw [aC (fun y => by rw [y, xt] at e; cases e), aC (fun y => by rw [y, xr] at e; cases e), aC (aB e hz)]
     exact e
    ·rw [aC (Ne.symm nzt), aC (Ne.symm nzr), ak, Int.zero_add]
     unfold opn
     rw [e1]
     rfl
   ·rw [← hsL]
    exact hP.open e1
   ·rw [dz e1]
    omega
 ·rintro σ X ⟨k3, L, rfl, hX, hsL⟩
  refine ⟨fun m σ X => ∃ L, σ = [some (.ref p), some (.ref r), some (.ref t), k3] ∧ BR H r t (brk ds 0) L X ∧ ((brk ds 0).take L).sum = (ds.length : Int) ∧ m = (brk ds 0).length - L, ⟨_, L, rfl, hX, hsL, rfl⟩, ?_⟩
  rintro m σ X ⟨L, rfl, ⟨sm, hL, xs, ps, xr, xt, hR, hP⟩, hsL, hm⟩
  have hpl := hP.1
  refine ⟨_, rfl, t, _, rfl, .inl (SqL.of xt), _, _, rfl, rfl, _, rfl, bW (fun c => ?_) fun c => ?_⟩
  ·have c := of_decide_eq_true c
   rw [List.length_map] at c
   have hLl : L < (brk ds 0).length := by
    rcases Nat.lt_or_ge L (brk ds 0).length with z | z
    ·exact z
    ·have e : L = (brk ds 0).length := by omega
     have := htr.2.1
     rw [← e] at this
     omega
   have e0 : (brk ds 0)[L]? = some 0 := by
    have e := List.getElem?_eq_getElem hLl
    rcases hbits _ (List.mem_of_getElem? e) with z | z
    ·rw [z] at e
     exact e
    ·rw [z] at e
     have h1 := dz e
     have h2 := jk hbits (L + 1) (brk ds 0).length (by omega)
     rw [List.take_length, hsum] at h2
     omega
   obtain ⟨v, ev, hz⟩ := shut L X xs ps sm xr xt e0 (by omega) hR hP
   refine ⟨_, fun σ' H2 z => z, _, rfl, .inl ⟨rfl, _, SqL.of xr⟩, _, rfl, .inl ⟨rfl, _, SqL.of xt⟩, t, _, _, rfl, rfl, xt, ev, (by show 2 ≤ sizeLine; decide), fun z hz' => ?_⟩
   obtain ⟨xr2, hX2⟩ := hz z hz'
   refine ⟨r, _, _, rfl, rfl, xr2, ?_, ?_⟩
   ·rw [hR.len, sizeLine_eq]
    omega
   ·exact ⟨(brk ds 0).length - (L + 1), by omega, L + 1, rfl, hX2, by rw [dz e0]; omega, rfl⟩
  ·have c : ¬ (0 : Int) < ((ps.map V.int).length : Int) := fun z => c (decide_eq_true z)
   rw [List.length_map] at c
   have eL : L = (brk ds 0).length := by
    rcases Nat.lt_or_ge L (brk ds 0).length with z | z
    ·exfalso
     rcases Nat.eq_zero_or_pos L with y | y
     ·subst y
      rw [List.take_zero] at hsL
      have := (List.getElem?_eq_some_iff.mp hg.1).1
      have e : ([] : List Int).sum = 0 := rfl
      omega
     ·have := htr.2.2 L y z
      omega
    ·omega
   subst eL
   exact ⟨_, rfl, q r xs X hr' sm xr hR⟩
structure Hst (X : Hp) (Ph C dx o r : Addr) (p : BP) (xr : List V) (ss : List Int) (x : Nat) : Prop where
 h : Hnd X Ph C dx o p ss x
 row : X r = some (.lst xr)
 ok : jN X p.ns p.ns.length xr
 ne : r ≠ p.sn
theorem Hst.same {X X' : Hp} {Ph C dx o r : Addr} {p : BP} {xr : List V} {ss : List Int} {x : Nat} (h : Hst X Ph C dx o r p xr ss x) (s : aQ X X') : Hst X' Ph C dx o r p xr ss x := ⟨h.h.same s, s _ _ h.row, h.ok.kept fun _ _ e => s _ _ e, h.ne⟩
theorem Hst.did {X X' : Hp} {Ph C dx o r : Addr} {p : BP} {xr : List V} {ss ss' : List Int} {x n k : Nat} (h : Hst X Ph C dx o r p xr ss x) (d : Did X X' Ph p.sn n k ss ss') (hl : ss'.length ≤ 1000) : Hst X' Ph C dx o r p xr ss' x :=
 ⟨h.h.did d hl, d.kp _ _ h.row (TabAt.ne h.h.b.tab h.row nofun) h.ne, h.ok.kept fun _ _ e => d.kp _ _ e (TabAt.ne h.h.b.tab e nofun) (fun z => by rw [z, h.h.b.ask.asks.seen] at e; cases e), h.ne⟩
theorem Hst.put {X : Hp} {Ph C dx o r : Addr} {p : BP} {xr : List V} {ss : List Int} {x : Nat} (h : Hst X Ph C dx o r p xr ss x) {y : Nat} (hy : y < p.ns.length) : Hst (L2.upd X o (.ins C dx (hf p y))) Ph C dx o r p xr ss y :=
 ⟨h.h.put hy, by rw [aC (fun z => by have := h.row; rw [z, h.h.at_] at this; cases this)]; exact h.row, h.ok.kept fun _ _ e => by rw [aC (fun z => by rw [z, h.h.at_] at e; cases e)]; exact e, h.ne⟩
theorem Hst.at {X : Hp} {Ph C dx o r : Addr} {p : BP} {xr : List V} {ss : List Int} {x : Nat} (h : Hst X Ph C dx o r p xr ss x) {y : Nat} (hy : y < p.ns.length) : ∃ (q : Addr) (v : Int), xr[y]? = some (.ref q) ∧ X q = some (.tup [.int v, .bl (opn p.ns y)]) ∧ dC p.ns y v := by
 have e := List.getElem?_eq_getElem (show y < xr.length by rw [h.ok.len]; exact hy)
 obtain ⟨q, v, e1, e2, e3⟩ := h.ok.all _ _ e
 exact ⟨q, v, by rw [e, e1], e2, e3⟩
def KqS (Ph sn o : Addr) (H X : Hp) : Prop := ∀ b u, H b = some u → b ≠ Ph → b ≠ sn → b ≠ o → X b = some u
theorem KqS.refl {Ph sn o : Addr} (H : Hp) : KqS Ph sn o H H := fun _ _ e _ _ _ => e
theorem KqS.trans {Ph sn o : Addr} {H X Y : Hp} (h : KqS Ph sn o H X) (h' : KqS Ph sn o X Y) : KqS Ph sn o H Y := fun b u e n1 n2 n3 => h' b u (h b u e n1 n2 n3) n1 n2 n3
theorem KqS.of {Ph sn o : Addr} {H X : Hp} (s : aQ H X) : KqS Ph sn o H X := fun b u e _ _ _ => s b u e
theorem KqS.put {Ph sn o : Addr} {H X : Hp} (h : KqS Ph sn o H X) (u : HO) : KqS Ph sn o H (upd X o u) := fun b v e n1 n2 n3 => by rw [aC n3]; exact h b v e n1 n2 n3
theorem Did.ks {H H' : Hp} {Ph sn o : Addr} {n k : Nat} {ss ss' : List Int} (d : Did H H' Ph sn n k ss ss') : KqS Ph sn o H H' := fun b u e n1 n2 _ => d.kp b u e n1 n2
theorem Dq {ns : List Int} (hb : aU ns) {i j : Nat} (hi : i < ns.length) (hj : j < ns.length) (e : opn ns i = opn ns j) : ns[i]? = ns[j]? := by
 have ei := List.getElem?_eq_getElem hi
 have ej := List.getElem?_eq_getElem hj
 unfold opn at e
 rcases hb _ (List.mem_of_getElem? ei) with z | z <;> rcases hb _ (List.mem_of_getElem? ej) with y | y
 ·rw [ei, ej, z, y]
 ·rw [ei, ej, z, y] at e
  exact absurd e (by decide)
 ·rw [ei, ej, z, y] at e
  exact absurd e (by decide)
 ·rw [ei, ej, z, y]
theorem gb {ns : List Int} {i : Nat} {b : Int} (h : ns[i]? = some b) : opn ns i = decide (b = 1) := by
 unfold opn
 rw [h]
 by_cases z : b = 1
 ·rw [decide_eq_true z, decide_eq_true (congrArg some z)]
 ·rw [decide_eq_false z, decide_eq_false (fun y => z (Option.some.inj y))]
def GoQ (Ph C dx o : Addr) (p : BP) (ss : List Int) (j k : Nat) (H : Hp) (Q : VK) : Prop := ∀ y ss' H', p.ns[y]? = some 1 → (p.ns.take y).sum = (j : Int) → Did H H' Ph p.sn (many p.ns.length) k ss ss' → Q (.bl true) (upd H' o (.ins C dx (hf p y)))
def An (Ph C N : Addr) : Sp := fun vs H Q E => ∃ (o dx : Addr) (p : BP) (ss : List Int) (x : Nat) (ds : List Int) (node : Int), vs = [.ref o, .int node] ∧ Hdn H Ph C dx o p ss x ds ∧ ss.length ≤ 900 ∧ ((∃ j : Nat, node = (j : Int) ∧ j < ds.length ∧ GoQ Ph C dx o p ss j 1 H Q) ∨ ((node < 0 ∨ (ds.length : Int) ≤ node) ∧ E (.ref N) none H))
theorem eH (T : Tx K mg a) : aW P w K mg base (CX1 P w) 6 a.f_Hand_to_node a.fd_Hand_to_node ["self", "node"] (An a.tP_heap_look a.c_Hand a.c_NoNode) := by
 refine T.D_Hand_to_node.F.ok1 oO (fun vs H Q E h => ?_) (fun cdv A outer s H vs Q E hr h => ?_)
 ·obtain ⟨o, dx, p, ss, x, ds, node, rfl, _⟩ := h
  rfl
 obtain ⟨o, dx, p, ss, x, ds, node, rfl, hH, hl, h⟩ := h
 refine ⟨_, (aj (jB (pv 0) (aK T.D_place_of (vq T) (by decide) hr Cz rfl (aa (cH (pv 0) rfl) (aa (cH (pv 0) rfl) (aa (pv 1) ao)))) rfl)
  (au (aH gm))), ?_⟩
 refine ⟨_, rfl, o, _, dx, _, _, rfl, hH.h.at_, T.cl_Hand, T.na_Hand_tables, rfl, _, rfl, o, _, dx, _, _, rfl, hH.h.at_, T.cl_Hand, T.na_Hand_look, rfl, _, rfl, p, ss, ds, node, rfl, hH.nd hl, ?_⟩
 rcases h with ⟨j, rfl, hj, q⟩ | ⟨hno, e⟩
 rotate_left
 ·exact .inr ⟨hno, e⟩
 refine .inl ⟨j, rfl, hj, fun y ss1 H1 h1 h2 d1 => ?_⟩
 have l1 := d1.wr.len
 have hH1 := hH.did d1 (by omega)
 exact ⟨_, rfl, o, _, dx, _, rfl, hH1.h.at_, T.cl_Hand, T.na_Hand_place, (by show 3 < 1000; decide), q y ss1 H1 h1 h2 d1⟩
theorem five {σ : L2.St} (h : σ.length = 5) : ∃ a b c d e, σ = [a, b, c, d, e] := by
 match σ, h with
 | [a, b, c, d, e], _ => exact ⟨a, b, c, d, e, rfl⟩
def wC (Ph C : Addr) : Sp := fun vs H Q _ => ∃ (o dx : Addr) (p : BP) (ss : List Int) (x : Nat) (ds : List Int) (node : Int), vs = [.ref o, .int node] ∧ Hdn H Ph C dx o p ss x ds ∧ ss.length ≤ 900 ∧ (node < 0 ∨ (ds.length : Int) ≤ node) ∧ ∀ H', aQ H H' → Q (.bl true) H'
theorem pD (T : Tx K mg a) : aW P w K mg base CX0 7 a.f_law_refused a.fd_law_refused ["_law_hand", "_law_node"] (wC a.tP_heap_look a.c_Hand) := by
 refine T.D_law_refused.F.ok cM (fun vs H Q E h => ?_) (fun cdv A outer s H vs Q E hr h => ?_)
 ·obtain ⟨o, dx, p, ss, x, ds, node, rfl, _⟩ := h
  rfl
 obtain ⟨o, dx, p, ss, x, ds, node, rfl, hH, hl, hno, q⟩ := h
 refine ⟨_, (aj (aG (i := 2) cM.nd rfl (Or.inl rfl) (bO ao))
  (aj (Ei rfl rfl (fun _ _ => (au (bj (ue (pv 0) T.cl_Hand T.M_Hand_to_node ((eH T).mono (by decide)) hr T.D_Hand_to_node.b .nil Fi (aa (pv 1) ao))))) (Fv (i := 3) T.x_NoNode T.k_NoNode rfl cM.nd rfl rfl (fun _ => (aj (aG (i := 4) cM.nd rfl (Or.inl rfl) (aV (show gB _ _ (Cq K) from za) rfl T.b_isinstance Tw.cX (aa (pv 3) (aa (cZ (aa (bc (v := .ref a.c_TooMany) rfl T.g_TooMany rfl) (aa (bc (v := .ref a.c_NoBit) rfl T.g_NoBit rfl) (aa (bc (v := .ref a.c_NoPlace) rfl T.g_NoPlace rfl) (aa (bc (v := .ref a.c_NoTree) rfl T.g_NoTree rfl) (aa (bc (v := .ref a.c_NoSign) rfl T.g_NoSign rfl) (aa (bc (v := .ref a.c_NoWord) rfl T.g_NoWord rfl) (aa (bc (v := .ref a.c_Twice) rfl T.g_Twice rfl) (aa (bc (v := .ref a.c_NoOctets) rfl T.g_NoOctets rfl) ao))))))))) ao))))
  (au (aG (i := 2) cM.nd rfl (Or.inl rfl) (bO (aa (aV (show gB _ _ (Dc K) from uY) rfl T.b_isinstance Tw.cX (aa (pv 3) (aa (bc (v := .ref a.c_WoodError) rfl T.g_WoodError rfl) ao))) (aa (aV (show gB _ _ (Dc K) from uY) rfl T.b_isinstance Tw.cX (aa (pv 3) (aa (sI (v := .ty "ValueError") rfl T.b_ValueError Tw.qW rfl) ao))) (aa (pv 4) ao)))))))) Eh))
  (au (aH (o5 (En hr.units) (pv 2) (bO (aa gm (aa gm (aa gm ao)))) (aN _)))))), ?_⟩
 refine ⟨(by show 0 ≤ sizeLine; decide), fun t0 ht0 => ?_⟩
 have s0 := aA ht0 (.lst [])
 have hH0 := hH.same s0
 refine ⟨_, rfl, o, dx, _, rfl, hH0.h.at_, rfl, _, rfl, o, dx, p, ss, x, ds, node, rfl, hH0, hl, .inr ⟨hno, _, rfl, fun σ' hσ => ?_⟩⟩
 obtain ⟨k0, k1, k2, k3, k4, rfl⟩ := five hσ
 refine ⟨true, T.i_NoNode_NoNode, gR fun ea hea => ?_⟩
 have sE := s0.trans (aA hea (wz ea a.c_NoNode))
 refine ⟨_, rfl, (by show 8 ≤ sizeLine; decide), fun tp htp => ?_⟩
 have ne : ea ≠ tp := aB ak htp
 refine ⟨ea, a.c_NoNode, tp, [a.c_TooMany, a.c_NoBit, a.c_NoPlace, a.c_NoTree, a.c_NoSign, a.c_NoWord, a.c_Twice, a.c_NoOctets], false, rfl, ak, (by rw [aC ne]; exact ak), T.k_NoNode, (by rw [List.map_cons, List.map_cons, List.map_cons, List.map_cons, List.map_cons, List.map_cons, List.map_cons, List.map_cons, c7 T.i_NoNode_TooMany, c7 T.i_NoNode_NoBit, c7 T.i_NoNode_NoPlace, c7 T.i_NoNode_NoTree, c7 T.i_NoNode_NoSign, c7 T.i_NoNode_NoWord, c7 T.i_NoNode_Twice, c7 T.i_NoNode_NoOctets]; rfl), ?_⟩
 refine ⟨_, rfl, ea, _, _, _, _, rfl, .inl ⟨_, rfl, rfl⟩, (by rw [aC ne]; exact ak), T.k_NoNode, T.i_NoNode_WoodError, ?_⟩
 refine ⟨_, rfl, ea, _, _, _, _, rfl, .inr ⟨_, rfl, rfl⟩, (by rw [aC ne]; exact ak), T.k_NoNode, T.i_NoNode_ValueError, ?_⟩
 refine ⟨_, rfl, (by show 3 ≤ sizeLine; decide), fun l hl1 => ?_⟩
 have s1 := aA hl1 (.lst [.bl true, .bl true, .bl false])
 refine ⟨_, rfl, (by show 3 ≤ sizeLine; decide), fun l2 hl2 => ?_⟩
 have s2 := aA hl2 (.lst [.bl true, .bl true, .bl false])
 refine .inr ⟨_, _, .lst (SqL.of (s2 _ _ ak)) (.cons (.bl _) (.cons (.bl _) (.cons (.bl _) .nil))), .lst (SqL.of ak) (.cons (.bl _) (.cons (.bl _) (.cons (.bl _) .nil))), rfl, rfl, ?_⟩
 exact q _ (sE.trans ((aA htp _).trans (s1.trans s2)))
theorem uD {H : Hp} {ns : List Int} : ∀ (xs : List V) (k : Nat), (∀ (i : Nat) (y : V), xs[i]? = some y → ∃ (q : Addr) (v : Int), y = .ref q ∧ H q = some (.tup [.int v, .bl (opn ns (k + i))]) ∧ dC ns (k + i) v) → ∃ dl : List PyData, gW K H xs dl ∧ PyData.canLayAll0 dl = true ∧ ∀ (i : Nat) (e : PyData), dl[i]? = some e → ∃ v, e = .tuple [.int v, .bool (opn ns (k + i))] ∧ dC ns (k + i) v ∧ i < xs.length
 | [], _, _ => ⟨[], .nil, rfl, by simp⟩
 | x :: xs, k, h => by
  obtain ⟨q, v, rfl, h1, h2⟩ := h 0 _ rfl
  obtain ⟨dl, d1, d2, d3⟩ := uD xs (k + 1) fun i y e => by
   have := h (i + 1) y e
   rw [show k + 1 + i = k + (i + 1) by omega]
   exact this
  refine ⟨_ :: dl, .cons (.tup (SqT.of h1) (.cons (.int _) (.cons (.bl _) .nil))) d1, ?_, fun i e he => ?_⟩
  ·show (_ && _) = true
   rw [d2]
   rfl
  ·cases i with
   | zero => cases he; exact ⟨v, rfl, h2, Nat.succ_pos _⟩
   | succ i =>
    obtain ⟨v, e1, e2, e3⟩ := d3 i e he
    rw [show k + (i + 1) = k + 1 + i by omega]
    exact ⟨v, e1, e2, Nat.succ_lt_succ e3⟩
theorem rE {H : Hp} : ∀ (xs : List V) (ds : List PyData), gW K H xs ds → ds.length = xs.length
 | _, _, .nil => rfl
 | _, _, .cons _ r => congrArg (· + 1) (rE _ _ r)
theorem ik {H : Hp} {r t : Addr} {ns : List Int} {xr : List V} {Q : VK} {y : Nat} {v : Int} (hb : aU ns) (hr : H r = some (.lst xr)) (ok : jN H ns ns.length xr) (hy : y < ns.length) (hv : dC ns y v) (ht : H t = some (.tup [.int v, .bl (opn ns y)])) (q : Q (.int (y : Int)) H) : xT K (.ref r) [.ref t] H Q := by
 obtain ⟨dl, d1, d2, d3⟩ := uD (K := K) (H := H) (ns := ns) xr 0 (fun i z e => by
  rw [Nat.zero_add]
  exact ok.all i z e)
 have hl : dl.length = xr.length := by
  exact rE _ _ d1
 refine ⟨r, xr, _, dl, _, y, rfl, rfl, hr, d1, .tup (SqT.of ht) (.cons (.int _) (.cons (.bl _) .nil)), d2, rfl, by simp [PyData.depth, PyData.depthAll], ?_, ?_, q⟩
 ·have e := List.getElem?_eq_getElem (show y < dl.length by rw [hl, ok.len]; exact hy)
  obtain ⟨u, e1, e2, _⟩ := d3 y _ e
  rw [Nat.zero_add] at e1 e2
  have := e2.uniq hv
  subst this
  exact ⟨_, e, by rw [e1]; exact bu _ _⟩
 ·intro i e hi he
  obtain ⟨u, e1, e2, e3⟩ := d3 i _ he
  rw [Nat.zero_add] at e1 e2
  rw [e1, yK, Bool.and_eq_false_iff]
  by_cases z : u = v
  ·right
   subst z
   rw [beq_eq_false_iff_ne]
   intro e4
   have := dC.inj hb e2 hv (Dq hb (by rw [ok.len] at e3; exact e3) hy e4)
   omega
  ·left
   exact decide_eq_false z
def Ce (Ph C : Addr) : Sp := fun vs H Q _ => ∃ (o dx r : Addr) (p : BP) (xr : List V) (ds ss : List Int) (x : Nat) (num far : Int), vs = [.ref o, .ref r, .int (x : Int), .int num, .int far] ∧ Hst H Ph C dx o r p xr ss x ∧ p.ns = brk ds 0 ∧ bT ds ∧ 1 ≤ far ∧ ss.length ≤ 850 ∧ ∀ (y : Nat) ss' H', Hst H' Ph C dx o r p xr ss' y → KqS Ph p.sn o H H' → bI (many p.ns.length) 14 ss ss' → Q (.int (y : Int)) H'
theorem uX (T : Tx K mg a) (B : Bs mg base a) : aW P w K mg base CX0 13 a.f_law_done a.fd_law_done ["_law_hand", "_law_row", "_law_spot", "_law_number", "_law_far"] (Ce a.tP_heap_look a.c_Hand) := by
 refine T.D_law_done.F.ok bD (fun vs H Q E h => ?_) (fun cdv A outer s H vs Q E hr h => ?_)
 ·obtain ⟨o, dx, r, p, xr, ds, ss, x, num, far, rfl, _⟩ := h
  rfl
 obtain ⟨o, dx, r, p, xr, ds, ss, x, num, far, rfl, hS, eqn, hg, hf, hl, q⟩ := h
 refine ⟨_, (aj (aG (i := 5) bD.nd rfl (Or.inl rfl) (aD bM (aV aP rfl T.b_len Tw.cu (aa (pv 1) ao)) aq))
  (aj (aG (i := 6) bD.nd rfl (Or.inl rfl) (aD bQ (pv 3) aq))
  (aj (aZ (aL jd (pv 6) aq (aN _)) (aj (aG (i := 7) bD.nd rfl (Or.inl rfl) (bY (pv 0) T.cl_Hand T.M_Hand_step ((tG T B).mono (by decide)) hr T.D_Hand_step.b .nil aJ))
  (au (aG (i := 2) bD.nd rfl (Or.inl rfl) (aD bQ (aD bF (pv 2) aq) (aV aP rfl T.b_len Tw.cu (aa (pv 1) ao)))))) (au (aZ (aL fP (pv 6) aq (aN _)) (aj (aG (i := 7) bD.nd rfl (Or.inl rfl) (bY (pv 0) T.cl_Hand T.M_Hand_step_back ((lK T B).mono (by decide)) hr T.D_Hand_step_back.b .nil aJ))
  (au (aG (i := 2) bD.nd rfl (Or.inl rfl) (aD bQ (aD bG (pv 2) aq) (aV aP rfl T.b_len Tw.cu (aa (pv 1) ao)))))) (au (aZ (aL jd (pv 6) aq (aN _)) (aj (aG (i := 7) bD.nd rfl (Or.inl rfl) (bY (pv 0) T.cl_Hand T.M_Hand_turn ((rR T B).mono (by decide)) hr T.D_Hand_turn.b .nil aJ))
  (au (aG (i := 2) bD.nd rfl (Or.inl rfl) (fO PySem.F.plainAttrs_list PySem.F.slot_list_index PySem.F.type_list_index (mR hr.units) (pv 1) (aa (cZ (aa (aR bA (aR aX (pv 1) (pv 2) (fun _ _ => rfl)) aq (fun _ _ => rfl)) (aa (DY (aR bA (aR aX (pv 1) (pv 2) (fun _ _ => rfl)) aq (fun _ _ => rfl))) ao))) ao))))) (au (aZ (aL fP (pv 6) aq (aN _)) (aj (bj (ue (pv 0) T.cl_Hand T.M_Hand_to_node ((eH T).mono (by decide)) hr T.D_Hand_to_node.b .nil Cy (aa (aD bQ (aD bM (pv 3) aq) (pv 5)) ao)))
  (aj (aG (i := 2) bD.nd rfl (Or.inl rfl) (fO PySem.F.plainAttrs_list PySem.F.slot_list_index PySem.F.type_list_index (mR hr.units) (pv 1) (aa (cZ (aa (aD bQ (aD bM (pv 3) aq) (pv 5)) (aa gm ao))) ao)))
  (au (aG (i := 7) bD.nd rfl (Or.inl rfl) (aR aX (pv 1) (pv 2) (fun _ _ => rfl)))))) (aj (aZ (qg (pJ (aK T.D_law_refused (pD T) (by decide) hr aJ rfl (aa (pv 0) (aa (aR aX (bO (aa (aD bG aq (pv 4)) (aa (aD bF (aD bG (pv 5) aq) (pv 4)) ao))) (aD bG (pv 6) aq) (fun _ _ => rfl)) ao))))) (au (aH (my iH aq))) aO)
  (aj (aZ (aL (wg hr.units) (cZ (aa (bY (pv 0) T.cl_Hand T.M_Hand_node ((fG T B).mono (by decide)) hr T.D_Hand_node.b .nil aJ) (aa (bY (pv 0) T.cl_Hand T.M_Hand_is_opening ((bZ T).mono (by decide)) hr T.D_Hand_is_opening.b .nil aJ) ao))) (aR aX (pv 1) (pv 2) (fun _ _ => rfl)) (aN _)) (au (aH (my iH aq))) aO)
  (aj (aZ (aL fP (aD bQ (aD bM (pv 3) aq) aq) aq (aN _)) (aj (aZ (aL Bl (ue (pv 0) T.cl_Hand T.M_Hand_to_node ((eH T).mono (by decide)) hr T.D_Hand_to_node.b .nil Cy (aa (aD bG (pv 5) aq) ao)) gm (aN _)) (au (aH (my iH aq))) aO)
  (au (aG (i := 2) bD.nd rfl (Or.inl rfl) (fO PySem.F.plainAttrs_list PySem.F.slot_list_index PySem.F.type_list_index (mR hr.units) (pv 1) (aa (cZ (aa (aD bG (pv 5) aq) (aa gm ao))) ao))))) aO)
  (au (aG (i := 7) bD.nd rfl (Or.inl rfl) (aR aX (pv 1) (pv 2) (fun _ _ => rfl))))))))))))))
  (aj (aZ (aL (wg hr.units) (pv 7) (aR aX (pv 1) (pv 2) (fun _ _ => rfl)) (aN _)) (au (aH (my iH aq))) aO)
  (au (aH (pv 2))))))), ?_⟩
 have hb := hS.h.b.ask.bits
 have hxl := hS.h.lt
 have hn2 := hS.h.tree.1
 have ern : xr.length = p.ns.length := hS.ok.len
 have hdn : Hdn H a.tP_heap_look a.c_Hand dx o p ss x ds := ⟨hS.h, eqn, hg⟩
 have hlen : p.ns.length = 2 * ds.length := (hdn.nd (by omega)).len
 have em : (xr.length : Int) / 2 = (ds.length : Int) := by omega
 refine ⟨_, rfl, r, _, rfl, .inl (SqL.of hS.row), _, _, rfl, rfl, ⟨by decide, by decide⟩, ?_⟩
 set_option simprocs false in dsimp only
 rw [em]
 refine ⟨_, rfl, _, _, rfl, rfl, (by show (0 : Int) < 8; decide), ?_⟩
 obtain ⟨w, ew⟩ : ∃ w : Nat, num % 8 = (w : Int) := ⟨(num % 8).toNat, by omega⟩
 have hw : w < 8 := by omega
 set_option simprocs false in dsimp only
 rw [ew]
 rcases (show w = 0 ∨ w = 1 ∨ w = 2 ∨ w = 3 ∨ w = 4 ∨ w = 5 ∨ w = 6 ∨ w = 7 by omega) with rfl | rfl | rfl | rfl | rfl | rfl | rfl | rfl
 ·have hy : (x + 1) % p.ns.length < p.ns.length := Nat.mod_lt _ (by omega)
  refine ⟨_, rfl, _, _, rfl, rfl, _, rfl, gR ?_⟩
  refine ⟨_, rfl, o, dx, _, rfl, hS.h.at_, rfl, o, dx, p, ss, x, (x + 1) % p.ns.length, rfl, hS.h, by omega, rfl, fun v ss1 X1 z hv d1 hz => ?_⟩
  have l1 := d1.wr.len
  have hX1 := (hS.put hy).did d1 (by omega)
  have sz := aA hz (.tup [.int v, .bl (opn p.ns ((x + 1) % p.ns.length))])
  have hX2 := hX1.same sz
  refine ⟨_, rfl, _, _, rfl, rfl, _, rfl, r, _, rfl, .inl (SqL.of hX2.row), _, _, rfl, rfl, (by show (0 : Int) < (xr.length : Int); omega), ?_⟩
  set_option simprocs false in dsimp only
  rw [show ((x : Int) + 1) % (xr.length : Int) = (((x + 1) % p.ns.length : Nat) : Int) by rw [ern, Int.natCast_emod]; rfl]
  obtain ⟨qz, vz, az, bz, cz⟩ := (hX2).at hy
  have := cz.uniq hv
  subst this
  refine ⟨_, rfl, _, rfl, _, rfl, r, _, _, _, rfl, rfl, SqL.of (hX2).row, bL az, .inr ⟨_, _, .tup (SqT.of ak) (.cons (.int _) (.cons (.bl _) .nil)), .tup (SqT.of bz) (.cons (.int _) (.cons (.bl _) .nil)), rfl, rfl, ?_⟩⟩
  rw [bu]
  exact ⟨_, rfl, bw ⟨_, rfl, q _ _ _ (hX2) ((((KqS.refl _).put _).trans d1.ks).trans (KqS.of sz)) (d1.wr.le (by decide))⟩⟩
 ·have hy : (x + 1) % p.ns.length < p.ns.length := Nat.mod_lt _ (by omega)
  refine ⟨_, rfl, _, _, rfl, rfl, _, rfl, gR ?_⟩
  refine ⟨_, rfl, o, dx, _, rfl, hS.h.at_, rfl, o, dx, p, ss, x, (x + 1) % p.ns.length, rfl, hS.h, by omega, rfl, fun v ss1 X1 z hv d1 hz => ?_⟩
  have l1 := d1.wr.len
  have hX1 := (hS.put hy).did d1 (by omega)
  have sz := aA hz (.tup [.int v, .bl (opn p.ns ((x + 1) % p.ns.length))])
  have hX2 := hX1.same sz
  refine ⟨_, rfl, _, _, rfl, rfl, _, rfl, r, _, rfl, .inl (SqL.of hX2.row), _, _, rfl, rfl, (by show (0 : Int) < (xr.length : Int); omega), ?_⟩
  set_option simprocs false in dsimp only
  rw [show ((x : Int) + 1) % (xr.length : Int) = (((x + 1) % p.ns.length : Nat) : Int) by rw [ern, Int.natCast_emod]; rfl]
  obtain ⟨qz, vz, az, bz, cz⟩ := (hX2).at hy
  have := cz.uniq hv
  subst this
  refine ⟨_, rfl, _, rfl, _, rfl, r, _, _, _, rfl, rfl, SqL.of (hX2).row, bL az, .inr ⟨_, _, .tup (SqT.of ak) (.cons (.int _) (.cons (.bl _) .nil)), .tup (SqT.of bz) (.cons (.int _) (.cons (.bl _) .nil)), rfl, rfl, ?_⟩⟩
  rw [bu]
  exact ⟨_, rfl, bw ⟨_, rfl, q _ _ _ (hX2) ((((KqS.refl _).put _).trans d1.ks).trans (KqS.of sz)) (d1.wr.le (by decide))⟩⟩
 ·obtain ⟨y, hy, ey, ey'⟩ : ∃ y : Nat, y < p.ns.length ∧ (y + 1) % p.ns.length = x ∧ ((x : Int) - 1) % (p.ns.length : Int) = (y : Int) := by
   rcases Nat.eq_zero_or_pos x with z | z
   ·subst z
    refine ⟨p.ns.length - 1, by omega, by rw [show p.ns.length - 1 + 1 = p.ns.length by omega, Nat.mod_self], ?_⟩
    have : ((0 : Nat) : Int) - 1 = ((p.ns.length - 1 : Nat) : Int) + (p.ns.length : Int) * (-1) := by omega
    rw [this, Int.add_mul_emod_self_left, Int.emod_eq_of_lt (by omega) (by omega)]
   ·refine ⟨x - 1, by omega, by rw [show x - 1 + 1 = x by omega, Nat.mod_eq_of_lt hxl], ?_⟩
    rw [Int.emod_eq_of_lt (by omega) (by omega)]
    omega
  refine ⟨_, rfl, _, _, rfl, rfl, _, rfl, bw ⟨_, rfl, rfl, _, rfl, gR ?_⟩⟩
  refine ⟨_, rfl, o, dx, _, rfl, hS.h.at_, rfl, o, dx, p, ss, x, y, rfl, hS.h, by omega, hy, ey, fun v ss1 X1 z hv d1 hz => ?_⟩
  have l1 := d1.wr.len
  have hX1 := (hS.put hy).did d1 (by omega)
  have sz := aA hz (.tup [.int v, .bl (opn p.ns y)])
  have hX2 := hX1.same sz
  refine ⟨_, rfl, _, _, rfl, rfl, _, rfl, r, _, rfl, .inl (SqL.of hX2.row), _, _, rfl, rfl, (by show (0 : Int) < (xr.length : Int); omega), ?_⟩
  set_option simprocs false in dsimp only
  rw [show ((x : Int) - 1) % (xr.length : Int) = (y : Int) by rw [ern, ey']]
  obtain ⟨qz, vz, az, bz, cz⟩ := (hX2).at hy
  have := cz.uniq hv
  subst this
  refine ⟨_, rfl, _, rfl, _, rfl, r, _, _, _, rfl, rfl, SqL.of (hX2).row, bL az, .inr ⟨_, _, .tup (SqT.of ak) (.cons (.int _) (.cons (.bl _) .nil)), .tup (SqT.of bz) (.cons (.int _) (.cons (.bl _) .nil)), rfl, rfl, ?_⟩⟩
  rw [bu]
  exact ⟨_, rfl, bw ⟨_, rfl, q _ _ _ (hX2) ((((KqS.refl _).put _).trans d1.ks).trans (KqS.of sz)) (d1.wr.le (by decide))⟩⟩
 ·refine ⟨_, rfl, _, _, rfl, rfl, _, rfl, bw ⟨_, rfl, rfl, _, rfl, bw ⟨_, rfl, _, _, rfl, rfl, _, rfl, gR ?_⟩⟩⟩
  refine ⟨_, rfl, o, dx, _, rfl, hS.h.at_, rfl, o, dx, p, ss, x, rfl, hS.h, by omega, fun y ss1 X1 hM d1 v ss2 X2 z hv d2 hz => ?_⟩
  have l1 := d1.wr.len
  have l2 := d2.wr.len
  have hy := hM.lt
  have hX2 := ((hS.did d1 (by omega)).put hy).did d2 (by omega)
  have sz := aA hz (.tup [.int v, .bl (opn p.ns y)])
  have xz : upd X2 z (.tup [.int v, .bl (opn p.ns y)]) z = some (.tup [.int v, .bl (opn p.ns y)]) := ak
  have hX3 := hX2.same sz
  generalize upd X2 z (.tup [.int v, .bl (opn p.ns y)]) = X3 at *
  obtain ⟨q0, v0, a0, b0, c0⟩ := hX3.at hxl
  have hny := hM.node hb c0
  have hoy : opn p.ns y = !opn p.ns x := by
   have e := List.getElem?_eq_getElem hxl
   rcases hb _ (List.mem_of_getElem? e) with z | z
   ·rw [z] at e
    rw [gb e, gb ((hM.other hb).2 e)]
    rfl
   ·rw [z] at e
    rw [gb e, gb ((hM.other hb).1 e)]
    rfl
  refine ⟨_, rfl, .inl ⟨rfl, _, SqL.of hX3.row⟩, _, rfl, _, rfl, r, _, _, _, rfl, rfl, SqL.of hX3.row, bL a0, q0, _, _, _, rfl, rfl, SqT.of b0, rfl, _, rfl, _, rfl, r, _, _, _, rfl, rfl, SqL.of hX3.row, bL a0, q0, _, _, _, rfl, rfl, SqT.of b0, rfl, _, rfl, (by show 2 ≤ sizeLine; decide), fun t ht' => ?_⟩
  have st := aA ht' (.tup [.int v0, .bl (!opn p.ns x)])
  have hX4 := hX3.same st
  set_option simprocs false in dsimp only [vA]
  refine ik hb hX4.row hX4.ok hy hny (by rw [hoy]; exact ak) ?_
  obtain ⟨qz, vz, az, bz, cz⟩ := (hX4).at hy
  have := cz.uniq hv
  subst this
  refine ⟨_, rfl, _, rfl, _, rfl, r, _, _, _, rfl, rfl, SqL.of (hX4).row, bL az, .inr ⟨_, _, .tup (SqT.of (st _ _ xz)) (.cons (.int _) (.cons (.bl _) .nil)), .tup (SqT.of bz) (.cons (.int _) (.cons (.bl _) .nil)), rfl, rfl, ?_⟩⟩
  rw [bu]
  exact ⟨_, rfl, bw ⟨_, rfl, q _ _ _ (hX4) (((d1.ks.put _).trans d2.ks).trans ((KqS.of sz).trans (KqS.of st))) ((d1.wr.trans d2.wr).le (by decide))⟩⟩
 ·refine ⟨_, rfl, _, _, rfl, rfl, _, rfl, bw ⟨_, rfl, rfl, _, rfl, bw ⟨_, rfl, _, _, rfl, rfl, _, rfl, gR ?_⟩⟩⟩
  refine ⟨_, rfl, o, dx, _, rfl, hS.h.at_, rfl, o, dx, p, ss, x, rfl, hS.h, by omega, fun y ss1 X1 hM d1 v ss2 X2 z hv d2 hz => ?_⟩
  have l1 := d1.wr.len
  have l2 := d2.wr.len
  have hy := hM.lt
  have hX2 := ((hS.did d1 (by omega)).put hy).did d2 (by omega)
  have sz := aA hz (.tup [.int v, .bl (opn p.ns y)])
  have xz : upd X2 z (.tup [.int v, .bl (opn p.ns y)]) z = some (.tup [.int v, .bl (opn p.ns y)]) := ak
  have hX3 := hX2.same sz
  generalize upd X2 z (.tup [.int v, .bl (opn p.ns y)]) = X3 at *
  obtain ⟨q0, v0, a0, b0, c0⟩ := hX3.at hxl
  have hny := hM.node hb c0
  have hoy : opn p.ns y = !opn p.ns x := by
   have e := List.getElem?_eq_getElem hxl
   rcases hb _ (List.mem_of_getElem? e) with z | z
   ·rw [z] at e
    rw [gb e, gb ((hM.other hb).2 e)]
    rfl
   ·rw [z] at e
    rw [gb e, gb ((hM.other hb).1 e)]
    rfl
  refine ⟨_, rfl, .inl ⟨rfl, _, SqL.of hX3.row⟩, _, rfl, _, rfl, r, _, _, _, rfl, rfl, SqL.of hX3.row, bL a0, q0, _, _, _, rfl, rfl, SqT.of b0, rfl, _, rfl, _, rfl, r, _, _, _, rfl, rfl, SqL.of hX3.row, bL a0, q0, _, _, _, rfl, rfl, SqT.of b0, rfl, _, rfl, (by show 2 ≤ sizeLine; decide), fun t ht' => ?_⟩
  have st := aA ht' (.tup [.int v0, .bl (!opn p.ns x)])
  have hX4 := hX3.same st
  set_option simprocs false in dsimp only [vA]
  refine ik hb hX4.row hX4.ok hy hny (by rw [hoy]; exact ak) ?_
  obtain ⟨qz, vz, az, bz, cz⟩ := (hX4).at hy
  have := cz.uniq hv
  subst this
  refine ⟨_, rfl, _, rfl, _, rfl, r, _, _, _, rfl, rfl, SqL.of (hX4).row, bL az, .inr ⟨_, _, .tup (SqT.of (st _ _ xz)) (.cons (.int _) (.cons (.bl _) .nil)), .tup (SqT.of bz) (.cons (.int _) (.cons (.bl _) .nil)), rfl, rfl, ?_⟩⟩
  rw [bu]
  exact ⟨_, rfl, bw ⟨_, rfl, q _ _ _ (hX4) (((d1.ks.put _).trans d2.ks).trans ((KqS.of sz).trans (KqS.of st))) ((d1.wr.trans d2.wr).le (by decide))⟩⟩
 ·refine ⟨_, rfl, _, _, rfl, rfl, _, rfl, bw ⟨_, rfl, rfl, _, rfl, bw ⟨_, rfl, _, _, rfl, rfl, _, rfl, bw ⟨_, rfl, rfl, _, rfl, gR ?_⟩⟩⟩⟩
  obtain ⟨j, ej, hj⟩ : ∃ j : Nat, num / 8 % (ds.length : Int) = (j : Int) ∧ j < ds.length := by
   have h1 := Int.emod_nonneg (num / 8) (show (ds.length : Int) ≠ 0 by omega)
   have h2 := Int.emod_lt_of_pos (num / 8) (show (0 : Int) < (ds.length : Int) by omega)
   exact ⟨(num / 8 % (ds.length : Int)).toNat, by omega, by omega⟩
  refine ⟨_, rfl, o, dx, _, rfl, hS.h.at_, rfl, _, rfl, _, _, rfl, rfl, ⟨by decide, by decide⟩, _, rfl, _, _, rfl, rfl, (by show (0 : Int) < (ds.length : Int); omega), o, dx, p, ss, x, ds, _, rfl, hdn, by omega, .inl ⟨j, ej, hj, fun y ss1 X1 y1 y2 d1 => ?_⟩⟩
  have l1 := d1.wr.len
  have hy := (List.getElem?_eq_some_iff.mp y1).1
  have hX1 := (hS.did d1 (by omega)).put hy
  refine ⟨_, rfl, .inl ⟨rfl, _, SqL.of hX1.row⟩, _, rfl, _, _, rfl, rfl, ⟨by decide, by decide⟩, _, rfl, _, _, rfl, rfl, (by show (0 : Int) < (ds.length : Int); omega), (by show 2 ≤ sizeLine; decide), fun t ht' => ?_⟩
  have st := aA ht' (.tup [.int (num / 8 % (ds.length : Int)), .bl true])
  have hX2 := hX1.same st
  set_option simprocs false in dsimp only [vA]
  refine ik hb hX2.row hX2.ok hy (.inl ⟨y1, y2.symm⟩) (by rw [gb y1, ← ej]; exact ak) ?_
  obtain ⟨qz, vz, az, bz, cz⟩ := (hX2).at hy
  refine ⟨_, rfl, _, rfl, r, _, _, _, rfl, rfl, SqL.of (hX2).row, bL az, ?_⟩
  refine ⟨_, rfl, _, rfl, _, rfl, r, _, _, _, rfl, rfl, SqL.of (hX2).row, bL az, .inr ⟨_, _, .tup (SqT.of bz) (.cons (.int _) (.cons (.bl _) .nil)), .tup (SqT.of bz) (.cons (.int _) (.cons (.bl _) .nil)), rfl, rfl, ?_⟩⟩
  rw [bu]
  exact ⟨_, rfl, bw ⟨_, rfl, q _ _ _ (hX2) ((d1.ks.put _).trans (KqS.of st)) (d1.wr.le (by decide))⟩⟩
 ·refine ⟨_, rfl, _, _, rfl, rfl, _, rfl, bw ⟨_, rfl, rfl, _, rfl, bw ⟨_, rfl, _, _, rfl, rfl, _, rfl, bw ⟨_, rfl, rfl, _, rfl, bw ?_⟩⟩⟩⟩
  refine ⟨_, rfl, _, rfl, _, _, rfl, rfl, _, rfl, _, _, rfl, rfl, _, rfl, _, _, rfl, rfl, (by show 2 ≤ sizeLine; decide), fun l hl1 => ?_⟩
  have sl := aA hl1 (.lst [.int (0 - far), .int ((ds.length : Int) - 1 + far)])
  refine ⟨_, rfl, _, _, rfl, rfl, l, _, _, _, rfl, rfl, SqL.of ak, rfl, o, dx, p, ss, x, ds, 0 - far, rfl, hdn.same sl, by omega, .inl (by omega), fun X0 s0 => ⟨true, rfl, bw ?_⟩⟩
  have s0' := sl.trans s0
  have hS0 := hS.same s0'
  refine ⟨_, rfl, o, dx, _, rfl, hS0.h.at_, rfl, o, dx, p, ss, x, rfl, hS0.h, by omega, fun v ss1 X1 hv d1 => ?_⟩
  have l1 := d1.wr.len
  have hX1 := hS0.did d1 (by omega)
  refine ⟨_, rfl, o, dx, _, rfl, hX1.h.at_, rfl, o, dx, p, ss1, x, rfl, hX1.h, by omega, fun ss2 X2 d2 => ⟨(by show 2 ≤ sizeLine; decide), fun t ht' => ?_⟩⟩
  have l2 := d2.wr.len
  have hX2 := hX1.did d2 (by omega)
  have st := aA ht' (.tup [.int v, .bl (opn p.ns x)])
  have hX3 := hX2.same st
  obtain ⟨qx, vx, ax, bx, cx⟩ := hX3.at hxl
  have := cx.uniq hv
  subst this
  refine ⟨_, rfl, _, rfl, r, _, _, _, rfl, rfl, SqL.of hX3.row, bL ax, .inr ⟨_, _, .tup (SqT.of ak) (.cons (.int _) (.cons (.bl _) .nil)), .tup (SqT.of bx) (.cons (.int _) (.cons (.bl _) .nil)), rfl, rfl, ?_⟩⟩
  rw [bu]
  refine ⟨_, rfl, bw ?_⟩
  have k3 : KqS a.tP_heap_look p.sn o H _ := (KqS.of s0').trans ((d1.ks.trans d2.ks).trans (KqS.of st))
  generalize upd X2 t (.tup [.int vx, .bl (opn p.ns x)]) = X3 at *
  refine ⟨_, rfl, _, _, rfl, rfl, ⟨by decide, by decide⟩, _, _, rfl, rfl, (by show (0 : Int) < 2; decide), rfl, _, rfl, bW (fun _ => ?_) fun _ => ?_⟩
  rotate_left
  ·
   obtain ⟨qz, vz, az, bz, cz⟩ := (hX3).at hxl
   refine ⟨_, rfl, _, rfl, r, _, _, _, rfl, rfl, SqL.of (hX3).row, bL az, ?_⟩
   refine ⟨_, rfl, _, rfl, _, rfl, r, _, _, _, rfl, rfl, SqL.of (hX3).row, bL az, .inr ⟨_, _, .tup (SqT.of bz) (.cons (.int _) (.cons (.bl _) .nil)), .tup (SqT.of bz) (.cons (.int _) (.cons (.bl _) .nil)), rfl, rfl, ?_⟩⟩
   rw [bu]
   exact ⟨_, rfl, bw ⟨_, rfl, q _ _ _ (hX3) (k3) ((d1.wr.trans d2.wr).le (by decide))⟩⟩
  have hdn3 : Hdn X3 a.tP_heap_look a.c_Hand dx o p ss2 x ds := ⟨hX3.h, hdn.eq, hdn.good⟩
  obtain ⟨m1, em1⟩ : ∃ m1 : Nat, (ds.length : Int) - 1 = (m1 : Int) := ⟨ds.length - 1, by omega⟩
  refine ⟨_, rfl, o, dx, _, rfl, hX3.h.at_, rfl, _, rfl, _, _, rfl, rfl, o, dx, p, ss2, x, ds, _, rfl, hdn3, by omega, .inl ⟨m1, em1, by omega, fun y ss3 X4 y1 y2 d3 => ?_⟩⟩
  have l3 := d3.wr.len
  have hy := (List.getElem?_eq_some_iff.mp y1).1
  have hX4 := (hX3.did d3 (by omega)).put hy
  refine ⟨_, _, rfl, rfl, _, rfl, bw ?_⟩
  refine ⟨_, rfl, .inl ⟨rfl, _, SqL.of hX4.row⟩, _, rfl, _, _, rfl, rfl, (by show 2 ≤ sizeLine; decide), fun t2 ht2 => ?_⟩
  have st2 := aA ht2 (.tup [.int ((ds.length : Int) - 1), .bl true])
  have hX5 := hX4.same st2
  set_option simprocs false in dsimp only [vA]
  refine ik hb hX5.row hX5.ok hy (.inl ⟨y1, y2.symm⟩) (by rw [gb y1, ← em1]; exact ak) ?_
  obtain ⟨qz, vz, az, bz, cz⟩ := (hX5).at hy
  refine ⟨_, rfl, _, rfl, r, _, _, _, rfl, rfl, SqL.of (hX5).row, bL az, ?_⟩
  refine ⟨_, rfl, _, rfl, _, rfl, r, _, _, _, rfl, rfl, SqL.of (hX5).row, bL az, .inr ⟨_, _, .tup (SqT.of bz) (.cons (.int _) (.cons (.bl _) .nil)), .tup (SqT.of bz) (.cons (.int _) (.cons (.bl _) .nil)), rfl, rfl, ?_⟩⟩
  rw [bu]
  exact ⟨_, rfl, bw ⟨_, rfl, q _ _ _ (hX5) (k3.trans ((d3.ks.put _).trans (KqS.of st2))) (((d1.wr.trans d2.wr).trans d3.wr).le (by decide))⟩⟩
 ·refine ⟨_, rfl, _, _, rfl, rfl, _, rfl, bw ⟨_, rfl, rfl, _, rfl, bw ⟨_, rfl, _, _, rfl, rfl, _, rfl, bw ⟨_, rfl, rfl, _, rfl, bw ?_⟩⟩⟩⟩
  refine ⟨_, rfl, _, rfl, _, _, rfl, rfl, _, rfl, _, _, rfl, rfl, _, rfl, _, _, rfl, rfl, (by show 2 ≤ sizeLine; decide), fun l hl1 => ?_⟩
  have sl := aA hl1 (.lst [.int (0 - far), .int ((ds.length : Int) - 1 + far)])
  refine ⟨_, rfl, _, _, rfl, rfl, l, _, _, _, rfl, rfl, SqL.of ak, rfl, o, dx, p, ss, x, ds, (ds.length : Int) - 1 + far, rfl, hdn.same sl, by omega, .inr (by omega), fun X0 s0 => ⟨true, rfl, bw ?_⟩⟩
  have s0' := sl.trans s0
  have hS0 := hS.same s0'
  refine ⟨_, rfl, o, dx, _, rfl, hS0.h.at_, rfl, o, dx, p, ss, x, rfl, hS0.h, by omega, fun v ss1 X1 hv d1 => ?_⟩
  have l1 := d1.wr.len
  have hX1 := hS0.did d1 (by omega)
  refine ⟨_, rfl, o, dx, _, rfl, hX1.h.at_, rfl, o, dx, p, ss1, x, rfl, hX1.h, by omega, fun ss2 X2 d2 => ⟨(by show 2 ≤ sizeLine; decide), fun t ht' => ?_⟩⟩
  have l2 := d2.wr.len
  have hX2 := hX1.did d2 (by omega)
  have st := aA ht' (.tup [.int v, .bl (opn p.ns x)])
  have hX3 := hX2.same st
  obtain ⟨qx, vx, ax, bx, cx⟩ := hX3.at hxl
  have := cx.uniq hv
  subst this
  refine ⟨_, rfl, _, rfl, r, _, _, _, rfl, rfl, SqL.of hX3.row, bL ax, .inr ⟨_, _, .tup (SqT.of ak) (.cons (.int _) (.cons (.bl _) .nil)), .tup (SqT.of bx) (.cons (.int _) (.cons (.bl _) .nil)), rfl, rfl, ?_⟩⟩
  rw [bu]
  refine ⟨_, rfl, bw ?_⟩
  have k3 : KqS a.tP_heap_look p.sn o H _ := (KqS.of s0').trans ((d1.ks.trans d2.ks).trans (KqS.of st))
  generalize upd X2 t (.tup [.int vx, .bl (opn p.ns x)]) = X3 at *
  refine ⟨_, rfl, _, _, rfl, rfl, ⟨by decide, by decide⟩, _, _, rfl, rfl, (by show (0 : Int) < 2; decide), rfl, _, rfl, bW (fun _ => ?_) fun _ => ?_⟩
  rotate_left
  ·
   obtain ⟨qz, vz, az, bz, cz⟩ := (hX3).at hxl
   refine ⟨_, rfl, _, rfl, r, _, _, _, rfl, rfl, SqL.of (hX3).row, bL az, ?_⟩
   refine ⟨_, rfl, _, rfl, _, rfl, r, _, _, _, rfl, rfl, SqL.of (hX3).row, bL az, .inr ⟨_, _, .tup (SqT.of bz) (.cons (.int _) (.cons (.bl _) .nil)), .tup (SqT.of bz) (.cons (.int _) (.cons (.bl _) .nil)), rfl, rfl, ?_⟩⟩
   rw [bu]
   exact ⟨_, rfl, bw ⟨_, rfl, q _ _ _ (hX3) (k3) ((d1.wr.trans d2.wr).le (by decide))⟩⟩
  have hdn3 : Hdn X3 a.tP_heap_look a.c_Hand dx o p ss2 x ds := ⟨hX3.h, hdn.eq, hdn.good⟩
  obtain ⟨m1, em1⟩ : ∃ m1 : Nat, (ds.length : Int) - 1 = (m1 : Int) := ⟨ds.length - 1, by omega⟩
  refine ⟨_, rfl, o, dx, _, rfl, hX3.h.at_, rfl, _, rfl, _, _, rfl, rfl, o, dx, p, ss2, x, ds, _, rfl, hdn3, by omega, .inl ⟨m1, em1, by omega, fun y ss3 X4 y1 y2 d3 => ?_⟩⟩
  have l3 := d3.wr.len
  have hy := (List.getElem?_eq_some_iff.mp y1).1
  have hX4 := (hX3.did d3 (by omega)).put hy
  refine ⟨_, _, rfl, rfl, _, rfl, bw ?_⟩
  refine ⟨_, rfl, .inl ⟨rfl, _, SqL.of hX4.row⟩, _, rfl, _, _, rfl, rfl, (by show 2 ≤ sizeLine; decide), fun t2 ht2 => ?_⟩
  have st2 := aA ht2 (.tup [.int ((ds.length : Int) - 1), .bl true])
  have hX5 := hX4.same st2
  set_option simprocs false in dsimp only [vA]
  refine ik hb hX5.row hX5.ok hy (.inl ⟨y1, y2.symm⟩) (by rw [gb y1, ← em1]; exact ak) ?_
  obtain ⟨qz, vz, az, bz, cz⟩ := (hX5).at hy
  refine ⟨_, rfl, _, rfl, r, _, _, _, rfl, rfl, SqL.of (hX5).row, bL az, ?_⟩
  refine ⟨_, rfl, _, rfl, _, rfl, r, _, _, _, rfl, rfl, SqL.of (hX5).row, bL az, .inr ⟨_, _, .tup (SqT.of bz) (.cons (.int _) (.cons (.bl _) .nil)), .tup (SqT.of bz) (.cons (.int _) (.cons (.bl _) .nil)), rfl, rfl, ?_⟩⟩
  rw [bu]
  exact ⟨_, rfl, bw ⟨_, rfl, q _ _ _ (hX5) (k3.trans ((d3.ks.put _).trans (KqS.of st2))) (((d1.wr.trans d2.wr).trans d3.wr).le (by decide))⟩⟩
def Al (Ph C : Addr) : Sp := fun vs H Q _ => ∃ (o dx : Addr) (p : BP) (ss : List Int) (x : Nat) (first : Int), vs = [.ref o, .int first] ∧ Hnd H Ph C dx o p ss x ∧ ss.length ≤ 900 ∧ uN Ph p ss x 7 H Q
theorem tQ (T : Tx K mg a) (B : Bs mg base a) : aW P w K mg base CX0 11 a.f_law_stand a.fd_law_stand ["_law_hand", "_law_first"] (Al a.tP_heap_look a.c_Hand) := by
 refine T.D_law_stand.F.ok iY (fun vs H Q E h => ?_) (fun cdv A outer s H vs Q E hr h => ?_)
 ·obtain ⟨o, dx, p, ss, x, first, rfl, _⟩ := h
  rfl
 obtain ⟨o, dx, p, ss, x, first, rfl, hH, hl, q⟩ := h
 refine ⟨_, (aj (aZ (aL fP (pv 1) aq (aN _)) (aj (aG (i := 2) iY.nd rfl (Or.inl rfl) (bY (pv 0) T.cl_Hand T.M_Hand_node ((fG T B).mono (by decide)) hr T.D_Hand_node.b .nil aJ))
  (au (aH (cZ (aa (pv 2) (aa (bY (pv 0) T.cl_Hand T.M_Hand_is_opening ((bZ T).mono (by decide)) hr T.D_Hand_is_opening.b .nil aJ) ao)))))) aO)
  (aj (aG (i := 3) iY.nd rfl (Or.inl rfl) (bY (pv 0) T.cl_Hand T.M_Hand_is_opening ((bZ T).mono (by decide)) hr T.D_Hand_is_opening.b .nil aJ))
  (au (aH (cZ (aa (bY (pv 0) T.cl_Hand T.M_Hand_node ((fG T B).mono (by decide)) hr T.D_Hand_node.b .nil aJ) (aa (pv 3) ao))))))), ?_⟩
 refine ⟨_, rfl, rfl, _, rfl, bW (fun _ => ?_) fun _ => ?_⟩
 ·refine ⟨_, rfl, o, dx, _, rfl, hH.at_, rfl, o, dx, p, ss, x, rfl, hH, by omega, fun v ss1 X1 hv d1 => ?_⟩
  have l1 := d1.wr.len
  have hX1 := hH.did d1 (by omega)
  exact ⟨_, rfl, _, rfl, o, dx, _, rfl, hX1.at_, rfl, o, dx, p, ss1, x, rfl, hX1, by omega, fun ss2 X2 d2 => ⟨(by show 2 ≤ sizeLine; decide), fun t ht' => q v ss2 X2 t hv (d1.trans d2) ht'⟩⟩
 ·refine ⟨_, rfl, o, dx, _, rfl, hH.at_, rfl, o, dx, p, ss, x, rfl, hH, by omega, fun ss1 X1 d1 => ?_⟩
  have l1 := d1.wr.len
  have hX1 := hH.did d1 (by omega)
  exact ⟨_, rfl, o, dx, _, rfl, hX1.at_, rfl, o, dx, p, ss1, x, rfl, hX1, by omega, fun v ss2 X2 hv d2 => ⟨_, rfl, (by show 2 ≤ sizeLine; decide), fun t ht' => q v ss2 X2 t hv ((d1.trans d2).le (by decide)) ht'⟩⟩
def Ba : Sp := fun vs H Q _ => ∃ (sn : Addr) (ss : List Int) (size : Int), vs = [.ref sn, .int size] ∧ H sn = some (.lst (ss.map V.int)) ∧ (∀ x ∈ ss, 0 ≤ x ∧ x < size) ∧ Q (.bl true) H
theorem lO (T : Tx K mg a) : aW P w K mg base CX0 1 a.f_law_there a.fd_law_there ["_law_seen", "_law_size"] Ba := by
 refine T.D_law_there.F.ok lY (fun vs H Q E h => ?_) (fun cdv A outer s H vs Q E hr h => ?_)
 ·obtain ⟨sn, ss, size, rfl, _⟩ := h
  rfl
 obtain ⟨sn, ss, size, rfl, h1, hx, q⟩ := h
 refine ⟨_, (aj (cC PassesOwn.never rfl (fJ (pv 0)) (bh (i := 2) lY.nd rfl (Or.inl rfl)) (au (aZ (PW.pt (pK (qg (pJ (aV uZ rfl T.b_isinstance Tw.cX (aa (pv 2) (aa (sI (v := .ty "int") rfl T.b_int Tw.Ep rfl) ao))))) (pK (pJ (aV uZ rfl T.b_isinstance Tw.cX (aa (pv 2) (aa (sI (v := .ty "bool") rfl T.b_bool Tw.Bt rfl) ao)))) (pK (aL jd (pv 2) aq (aN _)) (pA (aL vI (pv 2) (pv 1) (aN _))))))) (au (aH gm)) aO)))
  (au (aH gm))), ?_⟩
 refine ⟨_, rfl, sn, rfl, ⟨_, SqL.of h1⟩, ?_⟩
 refine cL (xs := ss.map V.int) (fun i σ H2 => (∃ k, σ = [some (.ref sn), some (.int size), k]) ∧ H2 = H) ⟨⟨none, rfl⟩, rfl⟩ ?_ ?_ ?_
 ·rintro i σ H2 _ ⟨_, rfl⟩
  exact SqL.of h1
 ·rintro i x σ H2 hx' ⟨⟨k, rfl⟩, rfl⟩
  obtain ⟨z, hz, rfl⟩ := int_at hx'
  have hcx := hx z (List.mem_of_getElem? hz)
  refine ⟨_, rfl, _, _, _, _, rfl, .int _, rfl, true, rfl, bw ⟨_, rfl, _, _, _, _, rfl, .int _, rfl, false, rfl, bw ?_⟩⟩
  refine ⟨_, rfl, _, _, rfl, rfl, _, rfl, bW (fun y => ?_) fun _ => ?_⟩
  ·have y := of_decide_eq_true y
   omega
  refine ⟨_, rfl, _, rfl, _, _, rfl, rfl, _, rfl, bW (fun y => ?_) fun _ => ?_⟩
  ·have y := of_decide_eq_true y
   omega
  exact ⟨⟨_, rfl⟩, rfl⟩
 ·rintro σ H2 ⟨⟨k, rfl⟩, rfl⟩
  exact q
theorem TabAt.other {X Y : Hp} {Ph Pt : Addr} {pos pos' : Pos} {q q' : Str} (nn : Ph ≠ Pt) (h : TabAt X Ph pos q) (hT : TabAt X Pt pos' q') (b : fj Pt X Y) : TabAt Y Ph pos q := by
 obtain ⟨ps, z1, z2, z3⟩ := h
 refine ⟨ps, b _ _ z1 nn, z2, ?_⟩
 rcases z3 with z3 | ⟨cd, oc, vs, tk, z4, z5, z6⟩
 ·exact .inl z3
 ·exact .inr ⟨cd, oc, vs, tk, z4, b _ _ z5 (TabAt.ne hT z5 nofun), z6⟩
def yf (C : Addr) (H H1 : Hp) (tb sn bl : Nat → Addr) (i : Nat) (ys : List V) : Prop := ys.length = i ∧ ∀ k, k < i → ∃ o dx f, ys[k]? = some (.ref o) ∧ H o = none ∧ H1 o = some (.ins C dx [("tables", .ref (tb k)), ("look", .ref f), ("place", .int 0)]) ∧ dB H1 f (sn k) (bl k) ∧ ∀ k', k' < k → ys[k']? ≠ some (.ref o)
theorem dB.kept {H X : Hp} {f sn bl : Addr} (h : dB H f sn bl) (k : ∀ b u, H b = some u → (∀ ps, u ≠ .tbl ps) → (∀ xs, u ≠ .lst xs) → (∀ C dx fs, u ≠ .ins C dx fs) → X b = some u) : dB X f sn bl := by
 obtain ⟨cs, ca⟩ := h
 exact ⟨cs, ca.same fun c u e2 => k _ _ e2 nofun nofun nofun⟩
theorem yf.snoc {C o dx f : Addr} {H H1 X : Hp} {tb sn bl : Nat → Addr} {i : Nat} {ys : List V} (h : yf C H H1 tb sn bl i ys) (k : ∀ b u, H1 b = some u → (∀ ps, u ≠ .tbl ps) → (∀ xs, u ≠ .lst xs) → X b = some u) (ho : H1 o = none) (hH : H o = none) (xo : X o = some (.ins C dx [("tables", .ref (tb i)), ("look", .ref f), ("place", .int 0)])) (L : dB X f (sn i) (bl i)) : yf C H X tb sn bl (i + 1) (ys ++ [.ref o]) := by
 obtain ⟨hl, ha⟩ := h
 refine ⟨by rw [List.length_append, hl]; rfl, fun j hj => ?_⟩
 rcases Nat.lt_or_ge j i with z | z
 ·obtain ⟨o', dx', f', e1, e2, e3, e4, e5⟩ := ha j z
  refine ⟨o', dx', f', by rw [List.getElem?_append_left (by omega)]; exact e1, e2, k _ _ e3 nofun nofun, e4.kept fun b u e n1 n2 _ => k b u e n1 n2, fun k' hk' => ?_⟩
  rw [List.getElem?_append_left (by omega)]
  exact e5 k' hk'
 ·have : j = i := by omega
  subst this
  refine ⟨o, dx, f, by rw [← hl, List.getElem?_append_right (Nat.le_refl _), Nat.sub_self]; rfl, hH, xo, L, fun k' hk' e => ?_⟩
  rw [List.getElem?_append_left (by omega)] at e
  obtain ⟨o', dx', f', e1, e2, e3, _⟩ := ha k' hk'
  rw [e] at e1
  cases e1
  rw [ho] at e3
  cases e3
theorem Hst.oth {X Y : Hp} {Ph C dx o r o' sn' : Addr} {p : BP} {xr : List V} {ss ss' : List Int} {x : Nat} {dx' : Addr} {fs' : List (Str × V)} (h : Hst X Ph C dx o r p xr ss x) (k : KqS Ph sn' o' X Y) (e' : X o' = some (.ins C dx' fs')) (no : o ≠ o') (tab : TabAt Y Ph (iz bR) aY.qual) (sq : ∃ zs, X sn' = some (.lst zs)) (hs : Y p.sn = some (.lst (ss'.map V.int))) (hl : ss'.length ≤ 1000) (nb : p.bl ≠ sn') (nr : r ≠ sn') : Hst Y Ph C dx o r p xr ss' x := by
 obtain ⟨zs, hz⟩ := sq
 have kk : ∀ b u, X b = some u → (∀ ps, u ≠ .tbl ps) → b ≠ sn' → b ≠ o' → Y b = some u := fun b u e n1 n2 n3 => k b u e (TabAt.ne h.h.b.tab e n1) n2 n3
 have k1 : ∀ b u, X b = some u → (∀ ps, u ≠ .tbl ps) → (∀ xs, u ≠ .lst xs) → (∀ C dx fs, u ≠ .ins C dx fs) → Y b = some u := fun b u e n1 n2 n3 => kk b u e n1 (fun z => by rw [z, hz] at e; cases e; exact n2 _ rfl) (fun z => by rw [z, e'] at e; cases e; exact n3 _ _ _ rfl)
 have hb := h.h.b
 have hbl : Y p.bl = some (.lst ((dw p.ns).map V.int)) := kk _ _ hb.ask.asks.nodes nofun nb (fun z => by have := hb.ask.asks.nodes; rw [z, e'] at this; cases this)
 refine ⟨⟨kk _ _ h.h.at_ nofun (fun z => by have := h.h.at_; rw [z, hz] at this; cases this) no, ⟨⟨⟨k1 _ _ hb.ask.tab.tup nofun nofun nofun, k1 _ _ hb.ask.tab.ahs nofun nofun nofun, hb.ask.tab.few⟩, ⟨dB.kept hb.ask.asks.look k1, hs, hbl, hb.ask.asks.ne, hl⟩, hb.ask.bits, hb.ask.len⟩, k1 _ _ hb.nds nofun nofun nofun, hb.low, hb.sz, hb.heap, tab⟩, h.h.tree, h.h.lt⟩, ?_, ?_, h.ne⟩
 ·exact kk _ _ h.row nofun nr (fun z => by have := h.row; rw [z, e'] at this; cases this)
 ·exact h.ok.kept fun q ys e => k1 _ _ e nofun nofun nofun
theorem KB.same {H H' : Hp} {t ah nd bl : Addr} {ns lows : List Int} {S : Nat} {xs : List V} (h : KB H t ah nd bl ns lows S xs) (s : aQ H H') : KB H' t ah nd bl ns lows S xs := ⟨⟨s _ _ h.tab.tup, s _ _ h.tab.ahs, h.tab.few⟩, s _ _ h.nds, s _ _ h.bls, h.low, h.sz, h.heap⟩
theorem Hst.lst {X : Hp} {Ph C dx o r l : Addr} {p : BP} {xr : List V} {ss : List Int} {x : Nat} {xs ys : List V} (h : Hst X Ph C dx o r p xr ss x) (e : X l = some (.lst xs)) (n1 : l ≠ p.sn) (n2 : l ≠ p.bl) (n3 : l ≠ r) : Hst (L2.upd X l (.lst ys)) Ph C dx o r p xr ss x := by
 have k : ∀ b u, X b = some u → (∀ zs, u ≠ .lst zs) → L2.upd X l (.lst ys) b = some u := fun b u e2 n => by
  rw [aC (fun z => by rw [z, e] at e2; cases e2; exact n _ rfl)]
  exact e2
 have hb := h.h.b
 exact ⟨⟨k _ _ h.h.at_ nofun, ⟨⟨⟨k _ _ hb.ask.tab.tup nofun, k _ _ hb.ask.tab.ahs nofun, hb.ask.tab.few⟩, ⟨dB.kept hb.ask.asks.look fun b u e n1 n2 n3 => k b u e n2, by rw [aC (Ne.symm n1)]; exact hb.ask.asks.seen, by rw [aC (Ne.symm n2)]; exact hb.ask.asks.nodes, hb.ask.asks.ne, hb.ask.asks.few⟩, hb.ask.bits, hb.ask.len⟩, k _ _ hb.nds nofun, hb.low, hb.sz, hb.heap, TabAt.upd hb.tab e⟩, h.h.tree, h.h.lt⟩, by rw [aC (Ne.symm n3)]; exact h.row, h.ok.kept fun q ys e => k _ _ e nofun, h.ne⟩
structure S3 (o0 o1 o2 r0 r1 sp : Addr) (p0 p1 p2 : BP) : Prop where
 sn : p1.sn = p0.sn
 ns : p1.ns = p0.ns
 bl : p1.bl = p0.bl
 s02 : p0.sn ≠ p2.sn
 b20 : p2.bl ≠ p0.sn
 b02 : p0.bl ≠ p2.sn
 r02 : r0 ≠ p2.sn
 r10 : r1 ≠ p0.sn
 o01 : o0 ≠ o1
 o02 : o0 ≠ o2
 o12 : o1 ≠ o2
 p0s : sp ≠ p0.sn
 p2s : sp ≠ p2.sn
 p0b : sp ≠ p0.bl
 p2b : sp ≠ p2.bl
 pr0 : sp ≠ r0
 pr1 : sp ≠ r1
structure W3 (Ph C o0 dx0 o1 dx1 o2 dx2 r0 r1 sp : Addr) (p0 p1 p2 : BP) (xr0 xr1 : List V) (Y : Hp) (x0 x1 x2 : Nat) (ss0 ss1 : List Int) (n : Nat) : Prop where
 h0 : Hst Y Ph C dx0 o0 r0 p0 xr0 ss0 x0
 h1 : Hst Y Ph C dx1 o1 r0 p1 xr0 ss0 x1
 h2 : Hst Y Ph C dx2 o2 r1 p2 xr1 ss1 x2
 b0 : ∀ z ∈ ss0, 0 ≤ z ∧ z < (many p0.ns.length : Int)
 b1 : ∀ z ∈ ss1, 0 ≤ z ∧ z < (many p2.ns.length : Int)
 l0 : ss0.length ≤ n
 l1 : ss1.length ≤ n
theorem bI.in {n k : Nat} {ss ss' : List Int} (w : bI n k ss ss') (h : ∀ z ∈ ss, 0 ≤ z ∧ z < (n : Int)) : ∀ z ∈ ss', 0 ≤ z ∧ z < (n : Int) := by
 obtain ⟨tt, rfl, _, ht⟩ := w
 intro z hz
 rcases List.mem_append.mp hz with z1 | z1
 ·exact h z z1
 ·exact ht z z1
section W3s
variable {Ph C o0 dx0 o1 dx1 o2 dx2 r0 r1 sp : Addr} {p0 p1 p2 : BP} {xr0 xr1 : List V} {Y Z : Hp} {x0 x1 x2 : Nat} {ss0 ss1 ss' : List Int} {n k y : Nat}
theorem W3.act0 (S : S3 o0 o1 o2 r0 r1 sp p0 p1 p2) (h : W3 Ph C o0 dx0 o1 dx1 o2 dx2 r0 r1 sp p0 p1 p2 xr0 xr1 Y x0 x1 x2 ss0 ss1 n) (hZ : Hst Z Ph C dx0 o0 r0 p0 xr0 ss' y) (kq : KqS Ph p0.sn o0 Y Z) (w : bI (many p0.ns.length) k ss0 ss') (hn : n + k ≤ 1000) : W3 Ph C o0 dx0 o1 dx1 o2 dx2 r0 r1 sp p0 p1 p2 xr0 xr1 Z y x1 x2 ss' ss1 (n + k) := by
 have wl := w.len
 have l0 := h.l0
 have l1 := h.l1
 have sq : ∃ zs, Y p0.sn = some (.lst zs) := ⟨_, h.h0.h.b.ask.asks.seen⟩
 refine ⟨hZ, h.h1.oth kq h.h0.h.at_ (Ne.symm S.o01) hZ.h.b.tab sq (by rw [S.sn]; exact hZ.h.b.ask.asks.seen) (by omega) (by rw [S.bl]; exact (h.h0.h.b.ask.asks.ne).symm) h.h0.ne, h.h2.oth kq h.h0.h.at_ (Ne.symm S.o02) hZ.h.b.tab sq (kq _ _ h.h2.h.b.ask.asks.seen (TabAt.ne h.h0.h.b.tab h.h2.h.b.ask.asks.seen nofun) (Ne.symm S.s02) (fun z => by have := h.h0.h.at_; rw [← z, h.h2.h.b.ask.asks.seen] at this; cases this)) (by omega) S.b20 S.r10, w.in h.b0, h.b1, by omega, by omega⟩
theorem W3.act1 (S : S3 o0 o1 o2 r0 r1 sp p0 p1 p2) (h : W3 Ph C o0 dx0 o1 dx1 o2 dx2 r0 r1 sp p0 p1 p2 xr0 xr1 Y x0 x1 x2 ss0 ss1 n) (hZ : Hst Z Ph C dx1 o1 r0 p1 xr0 ss' y) (kq : KqS Ph p1.sn o1 Y Z) (w : bI (many p1.ns.length) k ss0 ss') (hn : n + k ≤ 1000) : W3 Ph C o0 dx0 o1 dx1 o2 dx2 r0 r1 sp p0 p1 p2 xr0 xr1 Z x0 y x2 ss' ss1 (n + k) := by
 have wl := w.len
 have l0 := h.l0
 have l1 := h.l1
 rw [S.ns] at w
 have sq : ∃ zs, Y p1.sn = some (.lst zs) := ⟨_, h.h1.h.b.ask.asks.seen⟩
 refine ⟨h.h0.oth kq h.h1.h.at_ S.o01 hZ.h.b.tab sq (by rw [← S.sn]; exact hZ.h.b.ask.asks.seen) (by omega) (by rw [← S.bl]; exact (h.h1.h.b.ask.asks.ne).symm) h.h1.ne, hZ, h.h2.oth kq h.h1.h.at_ (Ne.symm S.o12) hZ.h.b.tab sq (kq _ _ h.h2.h.b.ask.asks.seen (TabAt.ne h.h0.h.b.tab h.h2.h.b.ask.asks.seen nofun) (by rw [S.sn]; exact Ne.symm S.s02) (fun z => by have := h.h1.h.at_; rw [← z, h.h2.h.b.ask.asks.seen] at this; cases this)) (by omega) (by rw [S.sn]; exact S.b20) (by rw [S.sn]; exact S.r10), w.in h.b0, h.b1, by omega, by omega⟩
theorem W3.act2 (S : S3 o0 o1 o2 r0 r1 sp p0 p1 p2) (h : W3 Ph C o0 dx0 o1 dx1 o2 dx2 r0 r1 sp p0 p1 p2 xr0 xr1 Y x0 x1 x2 ss0 ss1 n) (hZ : Hst Z Ph C dx2 o2 r1 p2 xr1 ss' y) (kq : KqS Ph p2.sn o2 Y Z) (w : bI (many p2.ns.length) k ss1 ss') (hn : n + k ≤ 1000) : W3 Ph C o0 dx0 o1 dx1 o2 dx2 r0 r1 sp p0 p1 p2 xr0 xr1 Z x0 x1 y ss0 ss' (n + k) := by
 have wl := w.len
 have l0 := h.l0
 have l1 := h.l1
 have sq : ∃ zs, Y p2.sn = some (.lst zs) := ⟨_, h.h2.h.b.ask.asks.seen⟩
 have e0 : Z p0.sn = some (.lst (ss0.map V.int)) := kq _ _ h.h0.h.b.ask.asks.seen (TabAt.ne h.h0.h.b.tab h.h0.h.b.ask.asks.seen nofun) S.s02 (fun z => by have := h.h2.h.at_; rw [← z, h.h0.h.b.ask.asks.seen] at this; cases this)
 refine ⟨h.h0.oth kq h.h2.h.at_ S.o02 hZ.h.b.tab sq e0 (by omega) S.b02 S.r02, h.h1.oth kq h.h2.h.at_ S.o12 hZ.h.b.tab sq (by rw [S.sn]; exact e0) (by omega) (by rw [S.bl]; exact S.b02) S.r02, hZ, h.b0, w.in h.b1, by omega, by omega⟩
theorem W3.same (h : W3 Ph C o0 dx0 o1 dx1 o2 dx2 r0 r1 sp p0 p1 p2 xr0 xr1 Y x0 x1 x2 ss0 ss1 n) (s : aQ Y Z) : W3 Ph C o0 dx0 o1 dx1 o2 dx2 r0 r1 sp p0 p1 p2 xr0 xr1 Z x0 x1 x2 ss0 ss1 n := ⟨h.h0.same s, h.h1.same s, h.h2.same s, h.b0, h.b1, h.l0, h.l1⟩
theorem W3.le {m : Nat} (h : W3 Ph C o0 dx0 o1 dx1 o2 dx2 r0 r1 sp p0 p1 p2 xr0 xr1 Y x0 x1 x2 ss0 ss1 n) (hm : n ≤ m) : W3 Ph C o0 dx0 o1 dx1 o2 dx2 r0 r1 sp p0 p1 p2 xr0 xr1 Y x0 x1 x2 ss0 ss1 m := ⟨h.h0, h.h1, h.h2, h.b0, h.b1, Nat.le_trans h.l0 hm, Nat.le_trans h.l1 hm⟩
theorem W3.set (S : S3 o0 o1 o2 r0 r1 sp p0 p1 p2) {xs ys : List V} (h : W3 Ph C o0 dx0 o1 dx1 o2 dx2 r0 r1 sp p0 p1 p2 xr0 xr1 Y x0 x1 x2 ss0 ss1 n) (e : Y sp = some (.lst xs)) : W3 Ph C o0 dx0 o1 dx1 o2 dx2 r0 r1 sp p0 p1 p2 xr0 xr1 (L2.upd Y sp (.lst ys)) x0 x1 x2 ss0 ss1 n := ⟨h.h0.lst e S.p0s S.p0b S.pr0, h.h1.lst e (by rw [S.sn]; exact S.p0s) (by rw [S.bl]; exact S.p0b) S.pr0, h.h2.lst e S.p2s S.p2b S.pr1, h.b0, h.b1, h.l0, h.l1⟩
end W3s
def KA (Ph s0 s1 sp : Addr) (H X : Hp) : Prop := ∀ b u, H b = some u → b ≠ Ph → b ≠ s0 → b ≠ s1 → b ≠ sp → (∀ C dx fs, u ≠ .ins C dx fs) → X b = some u
theorem KA.refl {Ph s0 s1 sp : Addr} (H : Hp) : KA Ph s0 s1 sp H H := fun _ _ e _ _ _ _ _ => e
theorem KA.trans {Ph s0 s1 sp : Addr} {H X Y : Hp} (h : KA Ph s0 s1 sp H X) (h' : KA Ph s0 s1 sp X Y) : KA Ph s0 s1 sp H Y := fun b u e n1 n2 n3 n4 n5 => h' b u (h b u e n1 n2 n3 n4 n5) n1 n2 n3 n4 n5
theorem KA.of {Ph s0 s1 sp : Addr} {H X : Hp} (s : aQ H X) : KA Ph s0 s1 sp H X := fun b u e _ _ _ _ _ => s b u e
theorem KA.set {Ph s0 s1 sp : Addr} {H X : Hp} (h : KA Ph s0 s1 sp H X) (u : HO) : KA Ph s0 s1 sp H (upd X sp u) := fun b v e n1 n2 n3 n4 n5 => by rw [aC n4]; exact h b v e n1 n2 n3 n4 n5
theorem KqS.ka {Ph s0 s1 sp sn o C dx : Addr} {fs : List (Str × V)} {H X : Hp} (h : KqS Ph sn o H X) (e : H o = some (.ins C dx fs)) (hs : sn = s0 ∨ sn = s1) : KA Ph s0 s1 sp H X := fun b u eb n1 n2 n3 n4 n5 => h b u eb n1 (by rcases hs with rfl | rfl <;> assumption) (fun z => by rw [z, e] at eb; cases eb; exact n5 _ _ _ rfl)
def sp_law (K : PySem.W.Frag) (Ph Pt : Addr) : Sp := fun vs H Q _ => ∃ (s : Addr) (ns : List Int), vs = [.ref s] ∧ SqL K H s (ns.map V.int) ∧ ns.length ≤ 63 ∧ TabAt H Ph (iz bR) aY.qual ∧ TabAt H Pt (uW dO) cQ.qual ∧ ∀ H', Q (.bl true) H'
theorem yS {H : Hp} {s Ph Pt : Addr} {ns : List Int} (hS : SqL K H s (ns.map V.int)) (hl : ns.length ≤ 63) (h0 : H Ph = some (.tbl #[])) (h : H Pt = some (.tbl #[])) : sp_law K Ph Pt [.ref s] H (fun v _ => v = .bl true) fun _ _ _ => False :=
 ⟨s, ns, rfl, hS, hl, tab0 h0, tab0 h, fun _ => rfl⟩
theorem Ds (T : Tx K mg a) (B : Bs mg base a) : aW P w K mg base CX0 14 a.f_law a.fd_law ["_law_script"] (sp_law K a.tP_heap_look a.tP_law_look) := by
 refine T.D_law.F.ok eU (fun vs H Q E h => ?_) (fun cdv A outer s H vs Q E hr h => ?_)
 ·obtain ⟨b, f, rfl, _⟩ := h
  rfl
 obtain ⟨sa, zs, rfl, hS, hl, hTh, hT, q⟩ := h
 refine ⟨_, (aj (aG (i := 1) eU.nd rfl (Or.inl rfl) (bO (aa (aK T.D_law_depths (j0 T) (by decide) hr aJ rfl (aa (ie jQ (pv 0) lD (iB aq)) (aa aq ao))) (aa (aK T.D_law_depths (j0 T) (by decide) hr aJ rfl (aa (Bf (ie jQ (pv 0) lD (iB aq)) (my iH aq)) (aa aq ao))) ao))))
  (aj (aG (i := 2) eU.nd rfl (Or.inl rfl) (bO (aa (aK T.D_law_brackets (jg T) (by decide) hr aJ rfl (aa (aR aX (pv 1) aq (fun _ _ => rfl)) ao)) (aa (aK T.D_law_brackets (jg T) (by decide) hr aJ rfl (aa (aR aX (pv 1) aq (fun _ _ => rfl)) ao)) ao))))
  (aj (aG (i := 3) eU.nd rfl (Or.inr rfl) (bO (aa (aK T.D_kept_tree (lM T) (by decide) hr aJ rfl (aa (gU iI rfl T.b_list Tw.ph (aa (aR aX (pv 1) aq (fun _ _ => rfl)) ao)) ao)) (aa (aK T.D_kept_tree (lM T) (by decide) hr aJ rfl (aa (gU iI rfl T.b_list Tw.ph (aa (aR aX (pv 1) aq (fun _ _ => rfl)) ao)) ao)) ao))))
  (aj (aG (i := 4) eU.nd rfl (Or.inr rfl) (bO (aa (bO ao) (aa (bO ao) ao))))
  (aj (wy (i := 5) eU.nd rfl rfl rfl (dM.two (j := 4) (k := 3) (by decide) rfl rfl (Or.inl rfl) (Or.inl rfl) rfl rfl rfl (Or.inl rfl) (Or.inl rfl)) (jP rfl T.b_range (aa aq ao)) (fun _ _ _ _ => sr) (fun _ _ _ _ => (By T.mk_Hand ((rW T).mono (by decide)) hr rfl T.g_Hand T.D_Hand_init.b .nil aJ (aa (aR (show IxR _ (Dy K) from bA) (aR (show IxR _ (Bm K) from aX) (pv 2) (aD bM (pv 0) aq) (fun _ _ => rfl)) aq (fun _ _ => rfl)) (aa (aK T.D_law_look (vG T B) (by decide) hr aJ rfl (aa (aR (show IxR _ (Dy K) from bA) (aR (show IxR _ (Bm K) from aX) (pv 2) (aD bM (pv 0) aq) (fun _ _ => rfl)) aq (fun _ _ => rfl)) (aa (aR (show IxR _ (Bm K) from aX) (pv 1) (aD bM (pv 0) aq) (fun _ _ => rfl)) ao))) ao)))))
  (aj (aG (i := 6) eU.nd rfl (Or.inl rfl) (bO (aa aq (aa aq (aa aq ao)))))
  (aj (cC PassesOwn.never rfl (fJ (ie jQ (pv 0) lD (iB aq))) (bh (i := 7) eU.nd rfl (Or.inl rfl)) (aj (aG (i := 8) eU.nd rfl (Or.inl rfl) (aD bQ (aD cI (pv 7) aq) aq))
  (aj (aG (i := 9) eU.nd rfl (Or.inl rfl) (aD bQ (aD bM (pv 8) aq) aq))
  (aj (aG (i := 10) eU.nd rfl (Or.inl rfl) (aD bF aq (aD bQ (pv 7) (aD Ea aq aq))))
  (aj (zW (aK T.D_law_done (uX T B) (by decide) hr aJ rfl (aa (aR aX (pv 5) (pv 9) (fun _ _ => rfl)) (aa (aR aX (pv 2) (aD bM (pv 9) aq) (fun _ _ => rfl)) (aa (aR aX (pv 6) (pv 9) (fun _ _ => rfl)) (aa (pv 8) (aa (pv 10) ao)))))) (Aq (pv 6) (pv 9) set_list))
  (aj (aZ (aL jd (aR aX (pv 6) (pv 9) (fun _ _ => rfl)) aq (aN _)) (au (aH gm)) aO)
  (au (cC PassesOwn.never rfl (fJ (bO (aa (aD bQ (aD bF (pv 9) aq) aq) (aa (pv 9) (aa (aD bQ (aD bF (pv 9) aq) aq) ao))))) (bh (i := 11) eU.nd rfl (Or.inl rfl)) (au (aZ (aL (wg hr.units) (aK T.D_law_stand (tQ T B) (by decide) hr aJ rfl (aa (aR aX (pv 5) (pv 11) (fun _ _ => rfl)) (aa (aD bQ (aD bM (pv 8) aq) aq) ao))) (aR aX (aR aX (pv 2) (aD bM (pv 11) aq) (fun _ _ => rfl)) (aR aX (pv 6) (pv 11) (fun _ _ => rfl)) (fun _ _ => rfl)) (aN _)) (au (aH gm)) aO))))))))))
  (au (aH (Ak (aK T.D_law_there (lO T) (by decide) hr aJ rfl (aa (aR aX (pv 4) aq (fun _ _ => rfl)) (aa (aV aP rfl T.b_len Tw.cu (aa (aR bA (aR aX (pv 3) aq (fun _ _ => rfl)) aq (fun _ _ => rfl)) ao)) ao))) (zA (aK T.D_law_there (lO T) (by decide) hr aJ rfl (aa (aR aX (pv 4) aq (fun _ _ => rfl)) (aa (aV aP rfl T.b_len Tw.cu (aa (aR bA (aR aX (pv 3) aq (fun _ _ => rfl)) aq (fun _ _ => rfl)) ao)) ao)))))))))))))), ?_⟩
 have nn := B.N_heap_look_law_look
 have ez : jX (zs.map V.int) none (some 63) = zs.map V.int := by
  rw [show (63 : Int) = ((63 : Nat) : Int) from rfl, vR, List.take_of_length_le hl]
 refine ⟨_, rfl, _, rfl, sa, _, rfl, hS, fun l1 hl1 => ?_⟩
 rw [ez]
 have s1 := aA hl1 (.lst (zs.map V.int))
 refine ⟨l1, zs, 60, rfl, ak, hl, by decide, fun d0 H1 ds0 hd00 sm1 hp0 hg0 hn0 => ?_⟩
 have a1 := s1.trans sm1
 refine ⟨_, rfl, _, rfl, sa, _, rfl, a1.seq hS, fun l2 hl2 => ?_⟩
 rw [ez]
 have s2 := aA hl2 (.lst (zs.map V.int))
 refine ⟨_, rfl, rfl, l2, _, rfl, SqL.of ak, fun l3 hl3 => ?_⟩
 have s3 := aA hl3 (.lst (zs.map V.int).reverse)
 refine ⟨l3, zs.reverse, 60, rfl, by rw [ak, List.map_reverse], by rw [List.length_reverse]; exact hl, by decide, fun d1 H2 ds1 hd10 sm2 hp1 hg1 hn1 => ?_⟩
 have a2 := s2.trans (s3.trans sm2)
 refine ⟨(by show 2 ≤ sizeLine; decide), fun tr htr => ?_⟩
 have s4 := aA htr (.lst [.ref d0, .ref d1])
 have xtr : upd H2 tr (.lst [.ref d0, .ref d1]) tr = some (.lst [.ref d0, .ref d1]) := ak
 have xd0 := s4 _ _ (a2 _ _ hp0)
 have xd1 := s4 _ _ hp1
 have a4 := a1.trans (a2.trans s4)
 generalize upd H2 tr (.lst [.ref d0, .ref d1]) = H4 at *
 have hlen0 := iy hg0
 have hlen1 := iy hg1
 have p0 : 0 < ds0.length := (List.getElem?_eq_some_iff.mp hg0.1).1
 have p1 : 0 < ds1.length := (List.getElem?_eq_some_iff.mp hg1.1).1
 refine ⟨_, rfl, tr, _, _, _, rfl, rfl, SqL.of xtr, rfl, d0, ds0, rfl, xd0, hg0, by omega, fun r0 xr0 H5 hr00 sm5 xrr0 hR0 => ?_⟩
 refine ⟨_, rfl, tr, _, _, _, rfl, rfl, SqL.of (sm5 _ _ xtr), rfl, d1, ds1, rfl, sm5 _ _ xd1, hg1, by omega, fun r1 xr1 H6 hr10 sm6 xrr1 hR1 => ?_⟩
 refine ⟨(by show 2 ≤ sizeLine; decide), fun rl hrl => ?_⟩
 have s7 := aA hrl (.lst [.ref r0, .ref r1])
 have xrl : upd H6 rl (.lst [.ref r0, .ref r1]) rl = some (.lst [.ref r0, .ref r1]) := ak
 have a7 := sm5.trans (sm6.trans s7)
 have a67 := sm6.trans s7
 have yr0 := a67 _ _ xrr0
 have yr1 := s7 _ _ xrr1
 have yR0 := hR0.kept fun _ _ e => a67 _ _ e
 have yR1 := hR1.kept fun _ _ e => s7 _ _ e
 generalize upd H6 rl (.lst [.ref r0, .ref r1]) = H7 at *
 refine ⟨_, rfl, tr, _, _, _, rfl, rfl, SqL.of (a7 _ _ xtr), rfl, d0, _, rfl, .inl (SqL.of (a7 _ _ xd0)), fun k0 hk0 => ?_⟩
 have s8 := aA hk0 (.lst (ds0.map V.int))
 refine ⟨k0, ds0, rfl, ak, by omega, hg0, fun kr0 t0 ah0 nd0 bl0 lows0 S0 xs0 H9 hbl00 sm9 xkr0 kb0 => ?_⟩
 have a9 := s8.trans sm9
 have a79 := a7.trans a9
 refine ⟨_, rfl, tr, _, _, _, rfl, rfl, SqL.of (a79 _ _ xtr), rfl, d1, _, rfl, .inl (SqL.of (a79 _ _ xd1)), fun k1 hk1 => ?_⟩
 have s10 := aA hk1 (.lst (ds1.map V.int))
 refine ⟨k1, ds1, rfl, ak, by omega, hg1, fun kr1 t1 ah1 nd1 bl1 lows1 S1 xs1 H11 hbl10 sm11 xkr1 kb1 => ?_⟩
 have a11 := s10.trans sm11
 refine ⟨(by show 2 ≤ sizeLine; decide), fun kl hkl => ?_⟩
 have s12 := aA hkl (.lst [.ref kr0, .ref kr1])
 have xkl : upd H11 kl (.lst [.ref kr0, .ref kr1]) kl = some (.lst [.ref kr0, .ref kr1]) := ak
 have a12 := a11.trans s12
 have ykr0 := a12 _ _ xkr0
 have ykr1 := s12 _ _ xkr1
 generalize upd H11 kl (.lst [.ref kr0, .ref kr1]) = H12 at *
 refine ⟨(by show 0 ≤ sizeLine; decide), fun sn0 hsn0 => ⟨(by show 0 ≤ sizeLine; decide), fun sn1 hsn1 => ⟨(by show 2 ≤ sizeLine; decide), fun sl hsl => ?_⟩⟩⟩
 have s13 := aA hsn0 (.lst [])
 have xs0' : upd H12 sn0 (.lst []) sn0 = some (.lst []) := ak
 generalize upd H12 sn0 (.lst []) = H13 at *
 have s14 := aA hsn1 (.lst [])
 have xs1' : upd H13 sn1 (.lst []) sn1 = some (.lst []) := ak
 have n01 : sn0 ≠ sn1 := aB xs0' hsn1
 generalize upd H13 sn1 (.lst []) = H14 at *
 have s15 := aA hsl (.lst [.ref sn0, .ref sn1])
 have xsl : upd H14 sl (.lst [.ref sn0, .ref sn1]) sl = some (.lst [.ref sn0, .ref sn1]) := ak
 generalize upd H14 sl (.lst [.ref sn0, .ref sn1]) = H15 at *
 have a15 := s13.trans (s14.trans s15)
 have all15 := a4.trans (a79.trans (a12.trans a15))
 have hT15 := TabAt.same hT all15
 have hTh15 := TabAt.same hTh all15
 have ykl := a15 _ _ xkl
 have zkr0 := a15 _ _ ykr0
 have zkr1 := a15 _ _ ykr1
 have nPt : ∀ {b : Addr} {u : HO}, H15 b = some u → (∀ ps, u ≠ .tbl ps) → b ≠ a.tP_law_look := fun e n => TabAt.ne hT15 e n
 refine ⟨3, rfl, by decide, by decide, ?_⟩
 intro D hD
 refine ⟨fun i m ys X => m = 3 - i ∧ i ≤ 3 ∧ X D = some (.lst ys) ∧ yf a.c_Hand H15 X (fun k => if k < 2 then t0 else t1) (fun k => if k < 2 then sn0 else sn1) (fun k => if k < 2 then bl0 else bl1) i ys ∧ (∀ b u, H15 b = some u → b ≠ a.tP_law_look → X b = some u) ∧ TabAt X a.tP_law_look (uW dO) cQ.qual ∧ TabAt X a.tP_heap_look (iz bR) aY.qual, ⟨_, rfl, Nat.zero_le _, ak, ⟨rfl, fun k hk => absurd hk (Nat.not_lt_zero _)⟩, fun b u e n => by rw [aC (aB e hD)]; exact e, TabAt.same hT15 (aA hD _), TabAt.same hTh15 (aA hD _)⟩, ?_⟩
 rintro i m ys X ⟨rfl, hi, xD, hH, kp, tT, tTh⟩
 by_cases hlt : i < 3
 ·refine .inr ⟨hlt, fun v Xi y => ?_⟩
  obtain ⟨rfl, rfl⟩ := y
  unfold Az
  refine gR ?_
  rcases (show i = 0 ∨ i = 1 ∨ i = 2 by omega) with rfl | rfl | rfl
  ·refine ⟨_, rfl, _, rfl, _, _, rfl, rfl, ⟨by decide, by decide⟩, kl, _, _, _, rfl, rfl, SqL.of (kp _ _ ykl (nPt ykl nofun)), rfl, kr0, _, _, _, rfl, rfl, SqT.of (kp _ _ zkr0 (nPt zkr0 nofun)), rfl, _, rfl, _, rfl, _, _, rfl, rfl, ⟨by decide, by decide⟩, kl, _, _, _, rfl, rfl, SqL.of (kp _ _ ykl (nPt ykl nofun)), rfl, kr0, _, _, _, rfl, rfl, SqT.of (kp _ _ zkr0 (nPt zkr0 nofun)), rfl, _, rfl, _, rfl, _, _, rfl, rfl, ⟨by decide, by decide⟩, sl, _, _, _, rfl, rfl, SqL.of (kp _ _ xsl (nPt xsl nofun)), rfl, bl0, sn0, rfl, tT, fun f H6 nf b6 hT6 L6 => fun o dx ho hdx ndo => ⟨o, dx, t0, f, rfl, ak, rfl, ?_⟩⟩
   rw [jO]
   have sH : aQ H6 (upd (upd H6 dx (.own o)) o (.ins a.c_Hand dx [("tables", .ref t0), ("look", .ref f), ("place", .int 0)])) := (aA hdx _).trans (aA (by rw [aC (Ne.symm ndo)]; exact ho) _)
   have xo : upd (upd H6 dx (.own o)) o (.ins a.c_Hand dx [("tables", .ref t0), ("look", .ref f), ("place", .int 0)]) o = some (.ins a.c_Hand dx [("tables", .ref t0), ("look", .ref f), ("place", .int 0)]) := ak
   generalize upd (upd H6 dx (.own o)) o (.ins a.c_Hand dx [("tables", .ref t0), ("look", .ref f), ("place", .int 0)]) = X6 at *
   have hXo : Xi o = none := fj.free b6 (TabAt.ex hT6) ho
   have h15o : H15 o = none := fj.free kp (TabAt.ex tT) hXo
   have x6D := sH _ _ (b6 _ _ xD (TabAt.ne tT xD nofun))
   have kk : ∀ b u, Xi b = some u → (∀ ps, u ≠ .tbl ps) → (∀ xs, u ≠ .lst xs) → upd X6 D (.lst (ys ++ [.ref o])) b = some u := fun b u e n1 n2 => by
    rw [aC (fun z => by rw [z, xD] at e; cases e; exact n2 _ rfl)]
    exact sH _ _ (b6 _ _ e (TabAt.ne tT e n1))
   refine ⟨x6D, by rw [hH.1, sizeLine_eq]; omega, 3 - (0 + 1), by omega, rfl, by omega, ak, hH.snoc kk hXo h15o (by rw [aC (fun z => by rw [z, x6D] at xo; cases xo)]; exact xo) ?_, ?_, ?_, ?_⟩
   ·exact L6.kept fun b u e n1 n2 _ => by
     rw [aC (fun z => by have := sH _ _ e; rw [z, x6D] at this; cases this; exact n2 _ rfl)]
     exact sH _ _ e
   ·exact fun b u e n => by
     rw [aC (aB e hD)]
     exact sH _ _ (b6 _ _ (kp _ _ e n) n)
   ·exact TabAt.upd (TabAt.same hT6 sH) x6D
   ·exact TabAt.upd (TabAt.same (TabAt.other nn tTh tT b6) sH) x6D
  ·refine ⟨_, rfl, _, rfl, _, _, rfl, rfl, ⟨by decide, by decide⟩, kl, _, _, _, rfl, rfl, SqL.of (kp _ _ ykl (nPt ykl nofun)), rfl, kr0, _, _, _, rfl, rfl, SqT.of (kp _ _ zkr0 (nPt zkr0 nofun)), rfl, _, rfl, _, rfl, _, _, rfl, rfl, ⟨by decide, by decide⟩, kl, _, _, _, rfl, rfl, SqL.of (kp _ _ ykl (nPt ykl nofun)), rfl, kr0, _, _, _, rfl, rfl, SqT.of (kp _ _ zkr0 (nPt zkr0 nofun)), rfl, _, rfl, _, rfl, _, _, rfl, rfl, ⟨by decide, by decide⟩, sl, _, _, _, rfl, rfl, SqL.of (kp _ _ xsl (nPt xsl nofun)), rfl, bl0, sn0, rfl, tT, fun f H6 nf b6 hT6 L6 => fun o dx ho hdx ndo => ⟨o, dx, t0, f, rfl, ak, rfl, ?_⟩⟩
   rw [jO]
   have sH : aQ H6 (upd (upd H6 dx (.own o)) o (.ins a.c_Hand dx [("tables", .ref t0), ("look", .ref f), ("place", .int 0)])) := (aA hdx _).trans (aA (by rw [aC (Ne.symm ndo)]; exact ho) _)
   have xo : upd (upd H6 dx (.own o)) o (.ins a.c_Hand dx [("tables", .ref t0), ("look", .ref f), ("place", .int 0)]) o = some (.ins a.c_Hand dx [("tables", .ref t0), ("look", .ref f), ("place", .int 0)]) := ak
   generalize upd (upd H6 dx (.own o)) o (.ins a.c_Hand dx [("tables", .ref t0), ("look", .ref f), ("place", .int 0)]) = X6 at *
   have hXo : Xi o = none := fj.free b6 (TabAt.ex hT6) ho
   have h15o : H15 o = none := fj.free kp (TabAt.ex tT) hXo
   have x6D := sH _ _ (b6 _ _ xD (TabAt.ne tT xD nofun))
   have kk : ∀ b u, Xi b = some u → (∀ ps, u ≠ .tbl ps) → (∀ xs, u ≠ .lst xs) → upd X6 D (.lst (ys ++ [.ref o])) b = some u := fun b u e n1 n2 => by
    rw [aC (fun z => by rw [z, xD] at e; cases e; exact n2 _ rfl)]
    exact sH _ _ (b6 _ _ e (TabAt.ne tT e n1))
   refine ⟨x6D, by rw [hH.1, sizeLine_eq]; omega, 3 - (1 + 1), by omega, rfl, by omega, ak, hH.snoc kk hXo h15o (by rw [aC (fun z => by rw [z, x6D] at xo; cases xo)]; exact xo) ?_, ?_, ?_, ?_⟩
   ·exact L6.kept fun b u e n1 n2 _ => by
     rw [aC (fun z => by have := sH _ _ e; rw [z, x6D] at this; cases this; exact n2 _ rfl)]
     exact sH _ _ e
   ·exact fun b u e n => by
     rw [aC (aB e hD)]
     exact sH _ _ (b6 _ _ (kp _ _ e n) n)
   ·exact TabAt.upd (TabAt.same hT6 sH) x6D
   ·exact TabAt.upd (TabAt.same (TabAt.other nn tTh tT b6) sH) x6D
  ·refine ⟨_, rfl, _, rfl, _, _, rfl, rfl, ⟨by decide, by decide⟩, kl, _, _, _, rfl, rfl, SqL.of (kp _ _ ykl (nPt ykl nofun)), rfl, kr1, _, _, _, rfl, rfl, SqT.of (kp _ _ zkr1 (nPt zkr1 nofun)), rfl, _, rfl, _, rfl, _, _, rfl, rfl, ⟨by decide, by decide⟩, kl, _, _, _, rfl, rfl, SqL.of (kp _ _ ykl (nPt ykl nofun)), rfl, kr1, _, _, _, rfl, rfl, SqT.of (kp _ _ zkr1 (nPt zkr1 nofun)), rfl, _, rfl, _, rfl, _, _, rfl, rfl, ⟨by decide, by decide⟩, sl, _, _, _, rfl, rfl, SqL.of (kp _ _ xsl (nPt xsl nofun)), rfl, bl1, sn1, rfl, tT, fun f H6 nf b6 hT6 L6 => fun o dx ho hdx ndo => ⟨o, dx, t1, f, rfl, ak, rfl, ?_⟩⟩
   rw [jO]
   have sH : aQ H6 (upd (upd H6 dx (.own o)) o (.ins a.c_Hand dx [("tables", .ref t1), ("look", .ref f), ("place", .int 0)])) := (aA hdx _).trans (aA (by rw [aC (Ne.symm ndo)]; exact ho) _)
   have xo : upd (upd H6 dx (.own o)) o (.ins a.c_Hand dx [("tables", .ref t1), ("look", .ref f), ("place", .int 0)]) o = some (.ins a.c_Hand dx [("tables", .ref t1), ("look", .ref f), ("place", .int 0)]) := ak
   generalize upd (upd H6 dx (.own o)) o (.ins a.c_Hand dx [("tables", .ref t1), ("look", .ref f), ("place", .int 0)]) = X6 at *
   have hXo : Xi o = none := fj.free b6 (TabAt.ex hT6) ho
   have h15o : H15 o = none := fj.free kp (TabAt.ex tT) hXo
   have x6D := sH _ _ (b6 _ _ xD (TabAt.ne tT xD nofun))
   have kk : ∀ b u, Xi b = some u → (∀ ps, u ≠ .tbl ps) → (∀ xs, u ≠ .lst xs) → upd X6 D (.lst (ys ++ [.ref o])) b = some u := fun b u e n1 n2 => by
    rw [aC (fun z => by rw [z, xD] at e; cases e; exact n2 _ rfl)]
    exact sH _ _ (b6 _ _ e (TabAt.ne tT e n1))
   refine ⟨x6D, by rw [hH.1, sizeLine_eq]; omega, 3 - (2 + 1), by omega, rfl, by omega, ak, hH.snoc kk hXo h15o (by rw [aC (fun z => by rw [z, x6D] at xo; cases xo)]; exact xo) ?_, ?_, ?_, ?_⟩
   ·exact L6.kept fun b u e n1 n2 _ => by
     rw [aC (fun z => by have := sH _ _ e; rw [z, x6D] at this; cases this; exact n2 _ rfl)]
     exact sH _ _ e
   ·exact fun b u e n => by
     rw [aC (aB e hD)]
     exact sH _ _ (b6 _ _ (kp _ _ e n) n)
   ·exact TabAt.upd (TabAt.same hT6 sH) x6D
   ·exact TabAt.upd (TabAt.same (TabAt.other nn tTh tT b6) sH) x6D
 have ei : i = 3 := by omega
 subst ei
 refine .inl ⟨Nat.le_refl _, ?_⟩
 obtain ⟨hyl, hyk⟩ := hH
 obtain ⟨o0, dx0, f0, e00, n00, xo0, L0, _⟩ := hyk 0 (by decide)
 obtain ⟨o1, dx1, f1, e11, n11, xo1, L1, w1⟩ := hyk 1 (by decide)
 obtain ⟨o2, dx2, f2, e22, n22, xo2, L2', w2⟩ := hyk 2 (by decide)
 have eys : ys = [.ref o0, .ref o1, .ref o2] := by
  match ys, hyl, e00, e11, e22 with
  | [_, _, _], _, e00, e11, e22 => cases e00; cases e11; cases e22; rfl
 subst eys
 have no01 : o0 ≠ o1 := fun z => w1 0 (by decide) (by rw [z]; rfl)
 have no02 : o0 ≠ o2 := fun z => w2 0 (by decide) (by rw [z]; rfl)
 have no12 : o1 ≠ o2 := fun z => w2 1 (by decide) (by rw [z]; rfl)
 have kd : ∀ b u, H15 b = some u → (∀ ps, u ≠ .tbl ps) → X b = some u := fun b u e n => kp b u e (nPt e n)
 have c12 : ∀ b u, H12 b = some u → (∀ ps, u ≠ .tbl ps) → X b = some u ∧ b ≠ sn0 ∧ b ≠ sn1 := fun b u e n => ⟨kd _ _ (a15 _ _ e) n, aB e hsn0, aB (s13 _ _ e) hsn1⟩
 have xz0 := kd _ _ ((s14.trans s15) _ _ xs0') nofun
 have xz1 := kd _ _ (s15 _ _ xs1') nofun
 have kb0' : KB H12 t0 ah0 nd0 bl0 (brk ds0 0) lows0 S0 xs0 := kb0.same a12
 have kb1' : KB H12 t1 ah1 nd1 bl1 (brk ds1 0) lows1 S1 xs1 := kb1.same s12
 have mkB : ∀ {t f sn bl ah nd : Addr} {ds lows : List Int} {S : Nat} {xs : List V}, KB H12 t ah nd bl (brk ds 0) lows S xs → dB X f sn bl → X sn = some (.lst []) → bl ≠ sn → (brk ds 0).length ≤ 4096 → Brk X a.tP_heap_look ⟨t, f, sn, bl, ah, nd, brk ds 0, lows, S, xs⟩ [] := fun kb L xsn ne hlen => ⟨⟨⟨(c12 _ _ kb.tab.tup nofun).1, (c12 _ _ kb.tab.ahs nofun).1, kb.tab.few⟩, ⟨L, xsn, (c12 _ _ kb.bls nofun).1, ne.symm, by simp⟩, fQ _ _, hlen⟩, (c12 _ _ kb.nds nofun).1, kb.low, kb.sz, kb.heap, tTh⟩
 have g0 := c12 _ _ ((a9.trans a12) _ _ yr0) nofun
 have g1 := c12 _ _ ((a9.trans a12) _ _ yr1) nofun
 have u0 := c12 _ _ kb0'.bls nofun
 have u1 := c12 _ _ kb1'.bls nofun
 have Y0 : Hst X a.tP_heap_look a.c_Hand dx0 o0 r0 ⟨t0, f0, sn0, bl0, ah0, nd0, brk ds0 0, lows0, S0, xs0⟩ xr0 [] 0 := ⟨⟨xo0, mkB kb0' L0 xz0 u0.2.1 (by omega), iu hg0, by show 0 < (brk ds0 0).length; omega⟩, g0.1, yR0.kept fun _ _ e => (c12 _ _ ((a9.trans a12) _ _ e) nofun).1, g0.2.1⟩
 have Y1 : Hst X a.tP_heap_look a.c_Hand dx1 o1 r0 ⟨t0, f1, sn0, bl0, ah0, nd0, brk ds0 0, lows0, S0, xs0⟩ xr0 [] 0 := ⟨⟨xo1, mkB kb0' L1 xz0 u0.2.1 (by omega), iu hg0, by show 0 < (brk ds0 0).length; omega⟩, g0.1, yR0.kept fun _ _ e => (c12 _ _ ((a9.trans a12) _ _ e) nofun).1, g0.2.1⟩
 have Y2 : Hst X a.tP_heap_look a.c_Hand dx2 o2 r1 ⟨t1, f2, sn1, bl1, ah1, nd1, brk ds1 0, lows1, S1, xs1⟩ xr1 [] 0 := ⟨⟨xo2, mkB kb1' L2' xz1 u1.2.2 (by omega), iu hg1, by show 0 < (brk ds1 0).length; omega⟩, g1.1, yR1.kept fun _ _ e => (c12 _ _ ((a9.trans a12) _ _ e) nofun).1, g1.2.2⟩
 obtain ⟨p0, e0⟩ : ∃ p, p = (⟨t0, f0, sn0, bl0, ah0, nd0, brk ds0 0, lows0, S0, xs0⟩ : BP) := ⟨_, rfl⟩
 obtain ⟨p1, e1⟩ : ∃ p, p = (⟨t0, f1, sn0, bl0, ah0, nd0, brk ds0 0, lows0, S0, xs0⟩ : BP) := ⟨_, rfl⟩
 obtain ⟨p2, e2⟩ : ∃ p, p = (⟨t1, f2, sn1, bl1, ah1, nd1, brk ds1 0, lows1, S1, xs1⟩ : BP) := ⟨_, rfl⟩
 rw [← e0] at Y0
 rw [← e1] at Y1
 rw [← e2] at Y2
 refine ⟨(by show 3 ≤ sizeLine; decide), fun sp hsp => ?_⟩
 have ss := aA hsp (.lst [.int 0, .int 0, .int 0])
 have xsp : upd X sp (.lst [.int 0, .int 0, .int 0]) sp = some (.lst [.int ((0 : Nat) : Int), .int ((0 : Nat) : Int), .int ((0 : Nat) : Int)]) := ak
 generalize upd X sp (.lst [.int 0, .int 0, .int 0]) = Xs at *
 have S : S3 o0 o1 o2 r0 r1 sp p0 p1 p2 := by
  subst e0 e1 e2
  exact ⟨rfl, rfl, rfl, n01, u1.2.1, u0.2.2, g0.2.2, g1.2.1, no01, no02, no12, (aB xz0 hsp).symm, (aB xz1 hsp).symm, (aB u0.1 hsp).symm, (aB u1.1 hsp).symm, (aB g0.1 hsp).symm, (aB g1.1 hsp).symm⟩
 have hW : W3 a.tP_heap_look a.c_Hand o0 dx0 o1 dx1 o2 dx2 r0 r1 sp p0 p1 p2 xr0 xr1 Xs 0 0 0 [] [] 0 := ⟨Y0.same ss, Y1.same ss, Y2.same ss, nofun, nofun, by simp, by simp⟩
 have q0 : p0.sn = sn0 ∧ p0.ns = brk ds0 0 ∧ p0.bl = bl0 := by subst e0; exact ⟨rfl, rfl, rfl⟩
 have q2 : p2.sn = sn1 ∧ p2.ns = brk ds1 0 ∧ p2.bl = bl1 := by subst e2; exact ⟨rfl, rfl, rfl⟩
 clear e0 e1 e2
 have sX : SqL K Xs sa (zs.map V.int) := by
  rcases all15.seq hS with (e | ⟨u, e⟩) | e
  ·exact .inl (.inl (ss _ _ (kd _ _ e nofun)))
  ·exact .inl (.inr ⟨u, ss _ _ (kd _ _ e nofun)⟩)
  ·exact .inr e
 refine ⟨_, rfl, _, rfl, sa, _, rfl, sX, fun lc hlc => ⟨lc, rfl, ⟨_, SqL.of ak⟩, ?_⟩⟩
 have ez2 : jX (zs.map V.int) none (some 24) = (zs.take 24).map V.int := by
  rw [show (24 : Int) = ((24 : Nat) : Int) from rfl, vR]
 rw [ez2]
 have sc := aA hlc (.lst ((zs.take 24).map V.int))
 have xlc : upd Xs lc (.lst ((zs.take 24).map V.int)) lc = some (.lst ((zs.take 24).map V.int)) := ak
 have hWc := hW.same sc
 have yspc := sc _ _ xsp
 have b12 : ∀ {b : Addr} {u : HO}, X b = some u → b ≠ sp := fun e => aB e hsp
 have sXc := ss.trans sc
 have nlc : lc ≠ sn0 ∧ lc ≠ sn1 ∧ lc ≠ sp := ⟨(aB (ss _ _ xz0) hlc).symm, (aB (ss _ _ xz1) hlc).symm, (aB xsp hlc).symm⟩
 generalize upd Xs lc (.lst ((zs.take 24).map V.int)) = Xc at *
 have nP : ∀ {b : Addr} {u : HO}, Xc b = some u → (∀ ps, u ≠ .tbl ps) → b ≠ a.tP_heap_look := fun e n => TabAt.ne hWc.h0.h.b.tab e n
 have frl : ∀ {Y : Hp}, KA a.tP_heap_look sn0 sn1 sp Xc Y → Y rl = some (.lst [.ref r0, .ref r1]) := fun k => by
  have g := c12 _ _ ((a9.trans a12) _ _ xrl) nofun
  exact k _ _ (sXc _ _ g.1) (nP (sXc _ _ g.1) nofun) g.2.1 g.2.2 (b12 g.1) nofun
 have fkl : ∀ {Y : Hp}, KA a.tP_heap_look sn0 sn1 sp Xc Y → Y kl = some (.lst [.ref kr0, .ref kr1]) := fun k => by
  have g := c12 _ _ xkl nofun
  exact k _ _ (sXc _ _ g.1) (nP (sXc _ _ g.1) nofun) g.2.1 g.2.2 (b12 g.1) nofun
 have fk0 : ∀ {Y : Hp}, KA a.tP_heap_look sn0 sn1 sp Xc Y → Y kr0 = some (.tup [.ref t0, .ref bl0]) := fun k => by
  have g := c12 _ _ ykr0 nofun
  exact k _ _ (sXc _ _ g.1) (nP (sXc _ _ g.1) nofun) g.2.1 g.2.2 (b12 g.1) nofun
 have fk1 : ∀ {Y : Hp}, KA a.tP_heap_look sn0 sn1 sp Xc Y → Y kr1 = some (.tup [.ref t1, .ref bl1]) := fun k => by
  have g := c12 _ _ ykr1 nofun
  exact k _ _ (sXc _ _ g.1) (nP (sXc _ _ g.1) nofun) g.2.1 g.2.2 (b12 g.1) nofun
 have fD : ∀ {Y : Hp}, KA a.tP_heap_look sn0 sn1 sp Xc Y → Y D = some (.lst [.ref o0, .ref o1, .ref o2]) := fun k => k _ _ (sXc _ _ xD) (nP (sXc _ _ xD) nofun) (aB ((s14.trans s15) _ _ xs0') hD).symm (aB (s15 _ _ xs1') hD).symm (b12 xD) nofun
 have fsl : ∀ {Y : Hp}, KA a.tP_heap_look sn0 sn1 sp Xc Y → Y sl = some (.lst [.ref sn0, .ref sn1]) := fun k => by
  have g := kd _ _ xsl nofun
  exact k _ _ (sXc _ _ g) (nP (sXc _ _ g) nofun) (aB (s14 _ _ xs0') hsl).symm (aB xs1' hsl).symm (b12 g) nofun
 refine cL (xs := (zs.take 24).map V.int) (fun i σ Y => (∃ k7 k8 k9 k10 k11, σ = [some (.ref sa), some (.ref tr), some (.ref rl), some (.ref kl), some (.ref sl), some (.ref D), some (.ref sp), k7, k8, k9, k10, k11]) ∧ KA a.tP_heap_look sn0 sn1 sp Xc Y ∧ ∃ x0 x1 x2 ss0 ss1, W3 a.tP_heap_look a.c_Hand o0 dx0 o1 dx1 o2 dx2 r0 r1 sp p0 p1 p2 xr0 xr1 Y x0 x1 x2 ss0 ss1 (35 * i) ∧ Y sp = some (.lst [.int (x0 : Int), .int (x1 : Int), .int (x2 : Int)])) ⟨⟨none, none, none, none, none, rfl⟩, KA.refl _, 0, 0, 0, [], [], hWc, yspc⟩ ?_ ?_ ?_
 ·rintro i σ Y _ ⟨_, k, _⟩
  exact SqL.of (k _ _ xlc (nP xlc nofun) nlc.1 nlc.2.1 nlc.2.2 nofun)
 ·rintro i v σ Y hv ⟨⟨k7, k8, k9, k10, k11, rfl⟩, kA, x0, x1, x2, ss0, ss1, hW, ysp⟩
  obtain ⟨z, hz, rfl⟩ := int_at hv
  have hi24 : i < 24 := by
   have := (List.getElem?_eq_some_iff.mp hz).1
   rw [List.length_take] at this
   omega
  refine ⟨_, rfl, _, _, rfl, rfl, .inr ⟨by decide, by decide⟩, _, _, rfl, rfl, (by show (0 : Int) < 2147483399; decide), ?_⟩
  refine ⟨_, rfl, _, _, rfl, rfl, ⟨by decide, by decide⟩, _, _, rfl, rfl, (by show (0 : Int) < 3; decide), ?_⟩
  refine ⟨_, rfl, _, _, rfl, rfl, ⟨by decide, by decide, by decide⟩, _, _, rfl, rfl, (by show (0 : Int) < 10 ^ 60; decide), _, _, rfl, rfl, ?_⟩
  obtain ⟨far, efar, hfar⟩ : ∃ far : Int, 1 + z % 10 ^ (60 : Int).toNat = far ∧ 1 ≤ far := ⟨_, rfl, by have := Int.emod_nonneg z (show (10 : Int) ^ (60 : Int).toNat ≠ 0 by decide); omega⟩
  set_option simprocs false in dsimp only
  rw [efar]
  generalize z * 40692 % 2147483399 = num
  rcases (show num / 1009 % 3 = 0 ∨ num / 1009 % 3 = 1 ∨ num / 1009 % 3 = 2 by omega) with ew | ew | ew <;> rw [ew]
  ·refine ⟨_, rfl, _, rfl, D, _, _, _, rfl, rfl, SqL.of (fD kA), rfl, _, rfl, _, rfl, _, _, rfl, rfl, ⟨by decide, by decide⟩, rl, _, _, _, rfl, rfl, SqL.of (frl kA), rfl, _, rfl, _, rfl, sp, _, _, _, rfl, rfl, SqL.of ysp, rfl, _, rfl, _, rfl, o0, dx0, r0, p0, xr0, ds0, ss0, x0, _, _, rfl, hW.h0, q0.2.1, hg0, hfar, by have := hW.l0; omega, fun y ss' Z hZ kq w => ?_⟩
   have kz : KA a.tP_heap_look sn0 sn1 sp Y Z := kq.ka hW.h0.h.at_ (.inl q0.1)
   have hWZ := hW.act0 S hZ kq w (by omega)
   have zsp : Z sp = some (.lst [.int (x0 : Int), .int (x1 : Int), .int (x2 : Int)]) := kq _ _ ysp (TabAt.ne hW.h0.h.b.tab ysp nofun) S.p0s (fun z => by have := hW.h0.h.at_; rw [← z, ysp] at this; cases this)
   refine ⟨_, rfl, _, rfl, sp, _, _, 0, rfl, rfl, zsp, rfl, ?_⟩
   have hW2 := (hWZ.set S zsp (ys := [.int (y : Int), .int (x1 : Int), .int (x2 : Int)])).le (show 35 * i + 14 ≤ 35 * i + 14 from Nat.le_refl _)
   have k2 := (kA.trans kz).set (.lst [.int (y : Int), .int (x1 : Int), .int (x2 : Int)])
   have wsp : upd Z sp (.lst [.int (y : Int), .int (x1 : Int), .int (x2 : Int)]) sp = some (.lst [.int (y : Int), .int (x1 : Int), .int (x2 : Int)]) := ak
   obtain ⟨Z2, hZ2⟩ : ∃ Z2, Z2 = upd Z sp (.lst [.int (y : Int), .int (x1 : Int), .int (x2 : Int)]) := ⟨_, rfl⟩
   have eset : upd Z sp (.lst ([V.int (x0 : Int), .int (x1 : Int), .int (x2 : Int)].set 0 (.int (y : Int)))) = Z2 := by rw [hZ2]; rfl
   rw [eset]
   rw [← hZ2] at hW2 k2 wsp
   clear hZ2 eset
   refine ⟨_, rfl, _, rfl, sp, _, _, _, rfl, rfl, SqL.of wsp, rfl, _, _, rfl, rfl, _, rfl, ?_⟩
   rw [decide_eq_false (show ¬ (y : Int) < 0 by omega)]
   refine bw ?_
   refine ⟨_, rfl, _, _, rfl, rfl, _, _, rfl, rfl, (by show (0 : Int) < 3; decide), _, rfl, _, rfl, _, _, rfl, rfl, _, _, rfl, rfl, (by show (0 : Int) < 3; decide), (by show 3 ≤ sizeLine; decide), fun lo hlo => ⟨lo, rfl, ⟨_, SqL.of ak⟩, ?_⟩⟩
   have sLo := aA hlo (.lst (([(0 + 1) % 3, 0, (0 + 2) % 3] : List Int).map V.int))
   have xlo : upd Z2 lo (.lst (([(0 + 1) % 3, 0, (0 + 2) % 3] : List Int).map V.int)) lo = some (.lst (([(0 + 1) % 3, 0, (0 + 2) % 3] : List Int).map V.int)) := ak
   have nlo : lo ≠ sn0 ∧ lo ≠ sn1 ∧ lo ≠ sp := ⟨by rw [← q0.1]; exact (aB hW2.h0.h.b.ask.asks.seen hlo).symm, by rw [← q2.1]; exact (aB hW2.h2.h.b.ask.asks.seen hlo).symm, (aB wsp hlo).symm⟩
   have hW3 := hW2.same sLo
   have k3 := k2.trans (KA.of sLo)
   have wsp3 := sLo _ _ wsp
   have npo : lo ≠ a.tP_heap_look := TabAt.ne hW3.h0.h.b.tab xlo nofun
   refine cL (xs := ([(0 + 1) % 3, 0, (0 + 2) % 3] : List Int).map V.int) (fun jj σ W => (∃ k11, σ = [some (.ref sa), some (.ref tr), some (.ref rl), some (.ref kl), some (.ref sl), some (.ref D), some (.ref sp), some (.int z), some (.int num), some (.int 0), some (.int far), k11]) ∧ (KA a.tP_heap_look sn0 sn1 sp Xc W ∧ W lo = some (.lst (([(0 + 1) % 3, 0, (0 + 2) % 3] : List Int).map V.int))) ∧ ∃ tt0 tt1, W3 a.tP_heap_look a.c_Hand o0 dx0 o1 dx1 o2 dx2 r0 r1 sp p0 p1 p2 xr0 xr1 W y x1 x2 tt0 tt1 (35 * i + 14 + 7 * jj) ∧ W sp = some (.lst [.int (y : Int), .int (x1 : Int), .int (x2 : Int)])) ⟨⟨_, rfl⟩, ⟨k3, xlo⟩, _, _, hW3, wsp3⟩ ?_ ?_ ?_
   ·rintro jj σ W _ ⟨_, ⟨_, h⟩, _⟩
    exact SqL.of h
   ·rintro jj v σ W hv ⟨⟨k11, rfl⟩, ⟨kB, wlo⟩, tt0, tt1, hV, wsp⟩
    obtain ⟨u, hu, rfl⟩ := int_at hv
    have hj3 : jj < 3 := (List.getElem?_eq_some_iff.mp hu).1
    have hu3 : u = 0 ∨ u = 1 ∨ u = 2 := by
     match jj, hu with
     | 0, hu => cases hu; decide
     | 1, hu => cases hu; decide
     | 2, hu => cases hu; decide
     | n + 3, hu => simp at hu
    rcases hu3 with rfl | rfl | rfl
    ·refine ⟨_, rfl, _, rfl, D, _, _, _, rfl, rfl, SqL.of (fD kB), rfl, _, rfl, _, _, rfl, rfl, ⟨by decide, by decide⟩, _, _, rfl, rfl, (by show (0 : Int) < 2; decide), o0, dx0, p0, tt0, y, _, rfl, hV.h0.h, by have := hV.l0; omega, fun vv ss2 Z1 t ht0 d ht1 => ?_⟩
     have l2 := d.wr.len
     have lv := hV.l0
     have st2 := aA ht1 (.tup [.int vv, .bl (opn p0.ns y)])
     have hZ1 := (hV.h0.did d (by omega)).same st2
     have kq2 : KqS a.tP_heap_look p0.sn o0 W _ := d.ks.trans (KqS.of st2)
     have xt : upd Z1 t (.tup [.int vv, .bl (opn p0.ns y)]) t = some (.tup [.int vv, .bl (opn p0.ns y)]) := ak
     generalize upd Z1 t (.tup [.int vv, .bl (opn p0.ns y)]) = Z3 at *
     have kz2 : KA a.tP_heap_look sn0 sn1 sp W Z3 := kq2.ka hV.h0.h.at_ (.inl q0.1)
     have kC := kB.trans kz2
     have wsp2 : Z3 sp = some (.lst [.int (y : Int), .int (x1 : Int), .int (x2 : Int)]) := kq2 _ _ wsp (TabAt.ne hV.h0.h.b.tab wsp nofun) S.p0s (fun z => by have := hV.h0.h.at_; rw [← z, wsp] at this; cases this)
     obtain ⟨qz, vz, az, bz, cz⟩ := hZ1.at hZ1.h.lt
     have := cz.uniq ht0
     subst this
     refine ⟨_, rfl, _, rfl, _, _, rfl, rfl, ⟨by decide, by decide⟩, rl, _, _, _, rfl, rfl, SqL.of (frl kC), rfl, _, rfl, _, rfl, sp, _, _, _, rfl, rfl, SqL.of wsp2, rfl, r0, _, _, _, rfl, rfl, SqL.of hZ1.row, bL az, .inr ⟨_, _, .tup (SqT.of xt) (.cons (.int _) (.cons (.bl _) .nil)), .tup (SqT.of bz) (.cons (.int _) (.cons (.bl _) .nil)), rfl, rfl, ?_⟩⟩
     rw [bu]
     exact ⟨_, rfl, bw ⟨⟨_, rfl⟩, ⟨kC, kz2 _ _ wlo npo nlo.1 nlo.2.1 nlo.2.2 nofun⟩, _, _, (hV.act0 S hZ1 kq2 d.wr (by omega)).le (by omega), wsp2⟩⟩
    ·refine ⟨_, rfl, _, rfl, D, _, _, _, rfl, rfl, SqL.of (fD kB), rfl, _, rfl, _, _, rfl, rfl, ⟨by decide, by decide⟩, _, _, rfl, rfl, (by show (0 : Int) < 2; decide), o1, dx1, p1, tt0, x1, _, rfl, hV.h1.h, by have := hV.l0; omega, fun vv ss2 Z1 t ht0 d ht1 => ?_⟩
     have l2 := d.wr.len
     have lv := hV.l0
     have st2 := aA ht1 (.tup [.int vv, .bl (opn p1.ns x1)])
     have hZ1 := (hV.h1.did d (by omega)).same st2
     have kq2 : KqS a.tP_heap_look p1.sn o1 W _ := d.ks.trans (KqS.of st2)
     have xt : upd Z1 t (.tup [.int vv, .bl (opn p1.ns x1)]) t = some (.tup [.int vv, .bl (opn p1.ns x1)]) := ak
     generalize upd Z1 t (.tup [.int vv, .bl (opn p1.ns x1)]) = Z3 at *
     have kz2 : KA a.tP_heap_look sn0 sn1 sp W Z3 := kq2.ka hV.h1.h.at_ (.inl (S.sn.trans q0.1))
     have kC := kB.trans kz2
     have wsp2 : Z3 sp = some (.lst [.int (y : Int), .int (x1 : Int), .int (x2 : Int)]) := kq2 _ _ wsp (TabAt.ne hV.h0.h.b.tab wsp nofun) (by rw [S.sn]; exact S.p0s) (fun z => by have := hV.h1.h.at_; rw [← z, wsp] at this; cases this)
     obtain ⟨qz, vz, az, bz, cz⟩ := hZ1.at hZ1.h.lt
     have := cz.uniq ht0
     subst this
     refine ⟨_, rfl, _, rfl, _, _, rfl, rfl, ⟨by decide, by decide⟩, rl, _, _, _, rfl, rfl, SqL.of (frl kC), rfl, _, rfl, _, rfl, sp, _, _, _, rfl, rfl, SqL.of wsp2, rfl, r0, _, _, _, rfl, rfl, SqL.of hZ1.row, bL az, .inr ⟨_, _, .tup (SqT.of xt) (.cons (.int _) (.cons (.bl _) .nil)), .tup (SqT.of bz) (.cons (.int _) (.cons (.bl _) .nil)), rfl, rfl, ?_⟩⟩
     rw [bu]
     exact ⟨_, rfl, bw ⟨⟨_, rfl⟩, ⟨kC, kz2 _ _ wlo npo nlo.1 nlo.2.1 nlo.2.2 nofun⟩, _, _, (hV.act1 S hZ1 kq2 d.wr (by omega)).le (by omega), wsp2⟩⟩
    ·refine ⟨_, rfl, _, rfl, D, _, _, _, rfl, rfl, SqL.of (fD kB), rfl, _, rfl, _, _, rfl, rfl, ⟨by decide, by decide⟩, _, _, rfl, rfl, (by show (0 : Int) < 2; decide), o2, dx2, p2, tt1, x2, _, rfl, hV.h2.h, by have := hV.l1; omega, fun vv ss2 Z1 t ht0 d ht1 => ?_⟩
     have l2 := d.wr.len
     have lv := hV.l1
     have st2 := aA ht1 (.tup [.int vv, .bl (opn p2.ns x2)])
     have hZ1 := (hV.h2.did d (by omega)).same st2
     have kq2 : KqS a.tP_heap_look p2.sn o2 W _ := d.ks.trans (KqS.of st2)
     have xt : upd Z1 t (.tup [.int vv, .bl (opn p2.ns x2)]) t = some (.tup [.int vv, .bl (opn p2.ns x2)]) := ak
     generalize upd Z1 t (.tup [.int vv, .bl (opn p2.ns x2)]) = Z3 at *
     have kz2 : KA a.tP_heap_look sn0 sn1 sp W Z3 := kq2.ka hV.h2.h.at_ (.inr q2.1)
     have kC := kB.trans kz2
     have wsp2 : Z3 sp = some (.lst [.int (y : Int), .int (x1 : Int), .int (x2 : Int)]) := kq2 _ _ wsp (TabAt.ne hV.h0.h.b.tab wsp nofun) S.p2s (fun z => by have := hV.h2.h.at_; rw [← z, wsp] at this; cases this)
     obtain ⟨qz, vz, az, bz, cz⟩ := hZ1.at hZ1.h.lt
     have := cz.uniq ht0
     subst this
     refine ⟨_, rfl, _, rfl, _, _, rfl, rfl, ⟨by decide, by decide⟩, rl, _, _, _, rfl, rfl, SqL.of (frl kC), rfl, _, rfl, _, rfl, sp, _, _, _, rfl, rfl, SqL.of wsp2, rfl, r1, _, _, _, rfl, rfl, SqL.of hZ1.row, bL az, .inr ⟨_, _, .tup (SqT.of xt) (.cons (.int _) (.cons (.bl _) .nil)), .tup (SqT.of bz) (.cons (.int _) (.cons (.bl _) .nil)), rfl, rfl, ?_⟩⟩
     rw [bu]
     exact ⟨_, rfl, bw ⟨⟨_, rfl⟩, ⟨kC, kz2 _ _ wlo npo nlo.1 nlo.2.1 nlo.2.2 nofun⟩, _, _, (hV.act2 S hZ1 kq2 d.wr (by omega)).le (by omega), wsp2⟩⟩
   ·rintro σ W ⟨⟨k11, rfl⟩, ⟨kB, _⟩, tt0, tt1, hV, wsp⟩
    exact ⟨⟨_, _, _, _, _, rfl⟩, kB, _, _, _, tt0, tt1, hV.le (by simp only [List.length_map, List.length_cons, List.length_nil]; omega), wsp⟩
  ·refine ⟨_, rfl, _, rfl, D, _, _, _, rfl, rfl, SqL.of (fD kA), rfl, _, rfl, _, rfl, _, _, rfl, rfl, ⟨by decide, by decide⟩, rl, _, _, _, rfl, rfl, SqL.of (frl kA), rfl, _, rfl, _, rfl, sp, _, _, _, rfl, rfl, SqL.of ysp, rfl, _, rfl, _, rfl, o1, dx1, r0, p1, xr0, ds0, ss0, x1, _, _, rfl, hW.h1, S.ns.trans q0.2.1, hg0, hfar, by have := hW.l0; omega, fun y ss' Z hZ kq w => ?_⟩
   have kz : KA a.tP_heap_look sn0 sn1 sp Y Z := kq.ka hW.h1.h.at_ (.inl (S.sn.trans q0.1))
   have hWZ := hW.act1 S hZ kq w (by omega)
   have zsp : Z sp = some (.lst [.int (x0 : Int), .int (x1 : Int), .int (x2 : Int)]) := kq _ _ ysp (TabAt.ne hW.h0.h.b.tab ysp nofun) (by rw [S.sn]; exact S.p0s) (fun z => by have := hW.h1.h.at_; rw [← z, ysp] at this; cases this)
   refine ⟨_, rfl, _, rfl, sp, _, _, 1, rfl, rfl, zsp, rfl, ?_⟩
   have hW2 := (hWZ.set S zsp (ys := [.int (x0 : Int), .int (y : Int), .int (x2 : Int)])).le (show 35 * i + 14 ≤ 35 * i + 14 from Nat.le_refl _)
   have k2 := (kA.trans kz).set (.lst [.int (x0 : Int), .int (y : Int), .int (x2 : Int)])
   have wsp : upd Z sp (.lst [.int (x0 : Int), .int (y : Int), .int (x2 : Int)]) sp = some (.lst [.int (x0 : Int), .int (y : Int), .int (x2 : Int)]) := ak
   obtain ⟨Z2, hZ2⟩ : ∃ Z2, Z2 = upd Z sp (.lst [.int (x0 : Int), .int (y : Int), .int (x2 : Int)]) := ⟨_, rfl⟩
   have eset : upd Z sp (.lst ([V.int (x0 : Int), .int (x1 : Int), .int (x2 : Int)].set 1 (.int (y : Int)))) = Z2 := by rw [hZ2]; rfl
   rw [eset]
   rw [← hZ2] at hW2 k2 wsp
   clear hZ2 eset
   refine ⟨_, rfl, _, rfl, sp, _, _, _, rfl, rfl, SqL.of wsp, rfl, _, _, rfl, rfl, _, rfl, ?_⟩
   rw [decide_eq_false (show ¬ (y : Int) < 0 by omega)]
   refine bw ?_
   refine ⟨_, rfl, _, _, rfl, rfl, _, _, rfl, rfl, (by show (0 : Int) < 3; decide), _, rfl, _, rfl, _, _, rfl, rfl, _, _, rfl, rfl, (by show (0 : Int) < 3; decide), (by show 3 ≤ sizeLine; decide), fun lo hlo => ⟨lo, rfl, ⟨_, SqL.of ak⟩, ?_⟩⟩
   have sLo := aA hlo (.lst (([(1 + 1) % 3, 1, (1 + 2) % 3] : List Int).map V.int))
   have xlo : upd Z2 lo (.lst (([(1 + 1) % 3, 1, (1 + 2) % 3] : List Int).map V.int)) lo = some (.lst (([(1 + 1) % 3, 1, (1 + 2) % 3] : List Int).map V.int)) := ak
   have nlo : lo ≠ sn0 ∧ lo ≠ sn1 ∧ lo ≠ sp := ⟨by rw [← q0.1]; exact (aB hW2.h0.h.b.ask.asks.seen hlo).symm, by rw [← q2.1]; exact (aB hW2.h2.h.b.ask.asks.seen hlo).symm, (aB wsp hlo).symm⟩
   have hW3 := hW2.same sLo
   have k3 := k2.trans (KA.of sLo)
   have wsp3 := sLo _ _ wsp
   have npo : lo ≠ a.tP_heap_look := TabAt.ne hW3.h0.h.b.tab xlo nofun
   refine cL (xs := ([(1 + 1) % 3, 1, (1 + 2) % 3] : List Int).map V.int) (fun jj σ W => (∃ k11, σ = [some (.ref sa), some (.ref tr), some (.ref rl), some (.ref kl), some (.ref sl), some (.ref D), some (.ref sp), some (.int z), some (.int num), some (.int 1), some (.int far), k11]) ∧ (KA a.tP_heap_look sn0 sn1 sp Xc W ∧ W lo = some (.lst (([(1 + 1) % 3, 1, (1 + 2) % 3] : List Int).map V.int))) ∧ ∃ tt0 tt1, W3 a.tP_heap_look a.c_Hand o0 dx0 o1 dx1 o2 dx2 r0 r1 sp p0 p1 p2 xr0 xr1 W x0 y x2 tt0 tt1 (35 * i + 14 + 7 * jj) ∧ W sp = some (.lst [.int (x0 : Int), .int (y : Int), .int (x2 : Int)])) ⟨⟨_, rfl⟩, ⟨k3, xlo⟩, _, _, hW3, wsp3⟩ ?_ ?_ ?_
   ·rintro jj σ W _ ⟨_, ⟨_, h⟩, _⟩
    exact SqL.of h
   ·rintro jj v σ W hv ⟨⟨k11, rfl⟩, ⟨kB, wlo⟩, tt0, tt1, hV, wsp⟩
    obtain ⟨u, hu, rfl⟩ := int_at hv
    have hj3 : jj < 3 := (List.getElem?_eq_some_iff.mp hu).1
    have hu3 : u = 0 ∨ u = 1 ∨ u = 2 := by
     match jj, hu with
     | 0, hu => cases hu; decide
     | 1, hu => cases hu; decide
     | 2, hu => cases hu; decide
     | n + 3, hu => simp at hu
    rcases hu3 with rfl | rfl | rfl
    ·refine ⟨_, rfl, _, rfl, D, _, _, _, rfl, rfl, SqL.of (fD kB), rfl, _, rfl, _, _, rfl, rfl, ⟨by decide, by decide⟩, _, _, rfl, rfl, (by show (0 : Int) < 2; decide), o0, dx0, p0, tt0, x0, _, rfl, hV.h0.h, by have := hV.l0; omega, fun vv ss2 Z1 t ht0 d ht1 => ?_⟩
     have l2 := d.wr.len
     have lv := hV.l0
     have st2 := aA ht1 (.tup [.int vv, .bl (opn p0.ns x0)])
     have hZ1 := (hV.h0.did d (by omega)).same st2
     have kq2 : KqS a.tP_heap_look p0.sn o0 W _ := d.ks.trans (KqS.of st2)
     have xt : upd Z1 t (.tup [.int vv, .bl (opn p0.ns x0)]) t = some (.tup [.int vv, .bl (opn p0.ns x0)]) := ak
     generalize upd Z1 t (.tup [.int vv, .bl (opn p0.ns x0)]) = Z3 at *
     have kz2 : KA a.tP_heap_look sn0 sn1 sp W Z3 := kq2.ka hV.h0.h.at_ (.inl q0.1)
     have kC := kB.trans kz2
     have wsp2 : Z3 sp = some (.lst [.int (x0 : Int), .int (y : Int), .int (x2 : Int)]) := kq2 _ _ wsp (TabAt.ne hV.h0.h.b.tab wsp nofun) S.p0s (fun z => by have := hV.h0.h.at_; rw [← z, wsp] at this; cases this)
     obtain ⟨qz, vz, az, bz, cz⟩ := hZ1.at hZ1.h.lt
     have := cz.uniq ht0
     subst this
     refine ⟨_, rfl, _, rfl, _, _, rfl, rfl, ⟨by decide, by decide⟩, rl, _, _, _, rfl, rfl, SqL.of (frl kC), rfl, _, rfl, _, rfl, sp, _, _, _, rfl, rfl, SqL.of wsp2, rfl, r0, _, _, _, rfl, rfl, SqL.of hZ1.row, bL az, .inr ⟨_, _, .tup (SqT.of xt) (.cons (.int _) (.cons (.bl _) .nil)), .tup (SqT.of bz) (.cons (.int _) (.cons (.bl _) .nil)), rfl, rfl, ?_⟩⟩
     rw [bu]
     exact ⟨_, rfl, bw ⟨⟨_, rfl⟩, ⟨kC, kz2 _ _ wlo npo nlo.1 nlo.2.1 nlo.2.2 nofun⟩, _, _, (hV.act0 S hZ1 kq2 d.wr (by omega)).le (by omega), wsp2⟩⟩
    ·refine ⟨_, rfl, _, rfl, D, _, _, _, rfl, rfl, SqL.of (fD kB), rfl, _, rfl, _, _, rfl, rfl, ⟨by decide, by decide⟩, _, _, rfl, rfl, (by show (0 : Int) < 2; decide), o1, dx1, p1, tt0, y, _, rfl, hV.h1.h, by have := hV.l0; omega, fun vv ss2 Z1 t ht0 d ht1 => ?_⟩
     have l2 := d.wr.len
     have lv := hV.l0
     have st2 := aA ht1 (.tup [.int vv, .bl (opn p1.ns y)])
     have hZ1 := (hV.h1.did d (by omega)).same st2
     have kq2 : KqS a.tP_heap_look p1.sn o1 W _ := d.ks.trans (KqS.of st2)
     have xt : upd Z1 t (.tup [.int vv, .bl (opn p1.ns y)]) t = some (.tup [.int vv, .bl (opn p1.ns y)]) := ak
     generalize upd Z1 t (.tup [.int vv, .bl (opn p1.ns y)]) = Z3 at *
     have kz2 : KA a.tP_heap_look sn0 sn1 sp W Z3 := kq2.ka hV.h1.h.at_ (.inl (S.sn.trans q0.1))
     have kC := kB.trans kz2
     have wsp2 : Z3 sp = some (.lst [.int (x0 : Int), .int (y : Int), .int (x2 : Int)]) := kq2 _ _ wsp (TabAt.ne hV.h0.h.b.tab wsp nofun) (by rw [S.sn]; exact S.p0s) (fun z => by have := hV.h1.h.at_; rw [← z, wsp] at this; cases this)
     obtain ⟨qz, vz, az, bz, cz⟩ := hZ1.at hZ1.h.lt
     have := cz.uniq ht0
     subst this
     refine ⟨_, rfl, _, rfl, _, _, rfl, rfl, ⟨by decide, by decide⟩, rl, _, _, _, rfl, rfl, SqL.of (frl kC), rfl, _, rfl, _, rfl, sp, _, _, _, rfl, rfl, SqL.of wsp2, rfl, r0, _, _, _, rfl, rfl, SqL.of hZ1.row, bL az, .inr ⟨_, _, .tup (SqT.of xt) (.cons (.int _) (.cons (.bl _) .nil)), .tup (SqT.of bz) (.cons (.int _) (.cons (.bl _) .nil)), rfl, rfl, ?_⟩⟩
     rw [bu]
     exact ⟨_, rfl, bw ⟨⟨_, rfl⟩, ⟨kC, kz2 _ _ wlo npo nlo.1 nlo.2.1 nlo.2.2 nofun⟩, _, _, (hV.act1 S hZ1 kq2 d.wr (by omega)).le (by omega), wsp2⟩⟩
    ·refine ⟨_, rfl, _, rfl, D, _, _, _, rfl, rfl, SqL.of (fD kB), rfl, _, rfl, _, _, rfl, rfl, ⟨by decide, by decide⟩, _, _, rfl, rfl, (by show (0 : Int) < 2; decide), o2, dx2, p2, tt1, x2, _, rfl, hV.h2.h, by have := hV.l1; omega, fun vv ss2 Z1 t ht0 d ht1 => ?_⟩
     have l2 := d.wr.len
     have lv := hV.l1
     have st2 := aA ht1 (.tup [.int vv, .bl (opn p2.ns x2)])
     have hZ1 := (hV.h2.did d (by omega)).same st2
     have kq2 : KqS a.tP_heap_look p2.sn o2 W _ := d.ks.trans (KqS.of st2)
     have xt : upd Z1 t (.tup [.int vv, .bl (opn p2.ns x2)]) t = some (.tup [.int vv, .bl (opn p2.ns x2)]) := ak
     generalize upd Z1 t (.tup [.int vv, .bl (opn p2.ns x2)]) = Z3 at *
     have kz2 : KA a.tP_heap_look sn0 sn1 sp W Z3 := kq2.ka hV.h2.h.at_ (.inr q2.1)
     have kC := kB.trans kz2
     have wsp2 : Z3 sp = some (.lst [.int (x0 : Int), .int (y : Int), .int (x2 : Int)]) := kq2 _ _ wsp (TabAt.ne hV.h0.h.b.tab wsp nofun) S.p2s (fun z => by have := hV.h2.h.at_; rw [← z, wsp] at this; cases this)
     obtain ⟨qz, vz, az, bz, cz⟩ := hZ1.at hZ1.h.lt
     have := cz.uniq ht0
     subst this
     refine ⟨_, rfl, _, rfl, _, _, rfl, rfl, ⟨by decide, by decide⟩, rl, _, _, _, rfl, rfl, SqL.of (frl kC), rfl, _, rfl, _, rfl, sp, _, _, _, rfl, rfl, SqL.of wsp2, rfl, r1, _, _, _, rfl, rfl, SqL.of hZ1.row, bL az, .inr ⟨_, _, .tup (SqT.of xt) (.cons (.int _) (.cons (.bl _) .nil)), .tup (SqT.of bz) (.cons (.int _) (.cons (.bl _) .nil)), rfl, rfl, ?_⟩⟩
     rw [bu]
     exact ⟨_, rfl, bw ⟨⟨_, rfl⟩, ⟨kC, kz2 _ _ wlo npo nlo.1 nlo.2.1 nlo.2.2 nofun⟩, _, _, (hV.act2 S hZ1 kq2 d.wr (by omega)).le (by omega), wsp2⟩⟩
   ·rintro σ W ⟨⟨k11, rfl⟩, ⟨kB, _⟩, tt0, tt1, hV, wsp⟩
    exact ⟨⟨_, _, _, _, _, rfl⟩, kB, _, _, _, tt0, tt1, hV.le (by simp only [List.length_map, List.length_cons, List.length_nil]; omega), wsp⟩
  ·refine ⟨_, rfl, _, rfl, D, _, _, _, rfl, rfl, SqL.of (fD kA), rfl, _, rfl, _, rfl, _, _, rfl, rfl, ⟨by decide, by decide⟩, rl, _, _, _, rfl, rfl, SqL.of (frl kA), rfl, _, rfl, _, rfl, sp, _, _, _, rfl, rfl, SqL.of ysp, rfl, _, rfl, _, rfl, o2, dx2, r1, p2, xr1, ds1, ss1, x2, _, _, rfl, hW.h2, q2.2.1, hg1, hfar, by have := hW.l1; omega, fun y ss' Z hZ kq w => ?_⟩
   have kz : KA a.tP_heap_look sn0 sn1 sp Y Z := kq.ka hW.h2.h.at_ (.inr q2.1)
   have hWZ := hW.act2 S hZ kq w (by omega)
   have zsp : Z sp = some (.lst [.int (x0 : Int), .int (x1 : Int), .int (x2 : Int)]) := kq _ _ ysp (TabAt.ne hW.h0.h.b.tab ysp nofun) S.p2s (fun z => by have := hW.h2.h.at_; rw [← z, ysp] at this; cases this)
   refine ⟨_, rfl, _, rfl, sp, _, _, 2, rfl, rfl, zsp, rfl, ?_⟩
   have hW2 := (hWZ.set S zsp (ys := [.int (x0 : Int), .int (x1 : Int), .int (y : Int)])).le (show 35 * i + 14 ≤ 35 * i + 14 from Nat.le_refl _)
   have k2 := (kA.trans kz).set (.lst [.int (x0 : Int), .int (x1 : Int), .int (y : Int)])
   have wsp : upd Z sp (.lst [.int (x0 : Int), .int (x1 : Int), .int (y : Int)]) sp = some (.lst [.int (x0 : Int), .int (x1 : Int), .int (y : Int)]) := ak
   obtain ⟨Z2, hZ2⟩ : ∃ Z2, Z2 = upd Z sp (.lst [.int (x0 : Int), .int (x1 : Int), .int (y : Int)]) := ⟨_, rfl⟩
   have eset : upd Z sp (.lst ([V.int (x0 : Int), .int (x1 : Int), .int (x2 : Int)].set 2 (.int (y : Int)))) = Z2 := by rw [hZ2]; rfl
   rw [eset]
   rw [← hZ2] at hW2 k2 wsp
   clear hZ2 eset
   refine ⟨_, rfl, _, rfl, sp, _, _, _, rfl, rfl, SqL.of wsp, rfl, _, _, rfl, rfl, _, rfl, ?_⟩
   rw [decide_eq_false (show ¬ (y : Int) < 0 by omega)]
   refine bw ?_
   refine ⟨_, rfl, _, _, rfl, rfl, _, _, rfl, rfl, (by show (0 : Int) < 3; decide), _, rfl, _, rfl, _, _, rfl, rfl, _, _, rfl, rfl, (by show (0 : Int) < 3; decide), (by show 3 ≤ sizeLine; decide), fun lo hlo => ⟨lo, rfl, ⟨_, SqL.of ak⟩, ?_⟩⟩
   have sLo := aA hlo (.lst (([(2 + 1) % 3, 2, (2 + 2) % 3] : List Int).map V.int))
   have xlo : upd Z2 lo (.lst (([(2 + 1) % 3, 2, (2 + 2) % 3] : List Int).map V.int)) lo = some (.lst (([(2 + 1) % 3, 2, (2 + 2) % 3] : List Int).map V.int)) := ak
   have nlo : lo ≠ sn0 ∧ lo ≠ sn1 ∧ lo ≠ sp := ⟨by rw [← q0.1]; exact (aB hW2.h0.h.b.ask.asks.seen hlo).symm, by rw [← q2.1]; exact (aB hW2.h2.h.b.ask.asks.seen hlo).symm, (aB wsp hlo).symm⟩
   have hW3 := hW2.same sLo
   have k3 := k2.trans (KA.of sLo)
   have wsp3 := sLo _ _ wsp
   have npo : lo ≠ a.tP_heap_look := TabAt.ne hW3.h0.h.b.tab xlo nofun
   refine cL (xs := ([(2 + 1) % 3, 2, (2 + 2) % 3] : List Int).map V.int) (fun jj σ W => (∃ k11, σ = [some (.ref sa), some (.ref tr), some (.ref rl), some (.ref kl), some (.ref sl), some (.ref D), some (.ref sp), some (.int z), some (.int num), some (.int 2), some (.int far), k11]) ∧ (KA a.tP_heap_look sn0 sn1 sp Xc W ∧ W lo = some (.lst (([(2 + 1) % 3, 2, (2 + 2) % 3] : List Int).map V.int))) ∧ ∃ tt0 tt1, W3 a.tP_heap_look a.c_Hand o0 dx0 o1 dx1 o2 dx2 r0 r1 sp p0 p1 p2 xr0 xr1 W x0 x1 y tt0 tt1 (35 * i + 14 + 7 * jj) ∧ W sp = some (.lst [.int (x0 : Int), .int (x1 : Int), .int (y : Int)])) ⟨⟨_, rfl⟩, ⟨k3, xlo⟩, _, _, hW3, wsp3⟩ ?_ ?_ ?_
   ·rintro jj σ W _ ⟨_, ⟨_, h⟩, _⟩
    exact SqL.of h
   ·rintro jj v σ W hv ⟨⟨k11, rfl⟩, ⟨kB, wlo⟩, tt0, tt1, hV, wsp⟩
    obtain ⟨u, hu, rfl⟩ := int_at hv
    have hj3 : jj < 3 := (List.getElem?_eq_some_iff.mp hu).1
    have hu3 : u = 0 ∨ u = 1 ∨ u = 2 := by
     match jj, hu with
     | 0, hu => cases hu; decide
     | 1, hu => cases hu; decide
     | 2, hu => cases hu; decide
     | n + 3, hu => simp at hu
    rcases hu3 with rfl | rfl | rfl
    ·refine ⟨_, rfl, _, rfl, D, _, _, _, rfl, rfl, SqL.of (fD kB), rfl, _, rfl, _, _, rfl, rfl, ⟨by decide, by decide⟩, _, _, rfl, rfl, (by show (0 : Int) < 2; decide), o0, dx0, p0, tt0, x0, _, rfl, hV.h0.h, by have := hV.l0; omega, fun vv ss2 Z1 t ht0 d ht1 => ?_⟩
     have l2 := d.wr.len
     have lv := hV.l0
     have st2 := aA ht1 (.tup [.int vv, .bl (opn p0.ns x0)])
     have hZ1 := (hV.h0.did d (by omega)).same st2
     have kq2 : KqS a.tP_heap_look p0.sn o0 W _ := d.ks.trans (KqS.of st2)
     have xt : upd Z1 t (.tup [.int vv, .bl (opn p0.ns x0)]) t = some (.tup [.int vv, .bl (opn p0.ns x0)]) := ak
     generalize upd Z1 t (.tup [.int vv, .bl (opn p0.ns x0)]) = Z3 at *
     have kz2 : KA a.tP_heap_look sn0 sn1 sp W Z3 := kq2.ka hV.h0.h.at_ (.inl q0.1)
     have kC := kB.trans kz2
     have wsp2 : Z3 sp = some (.lst [.int (x0 : Int), .int (x1 : Int), .int (y : Int)]) := kq2 _ _ wsp (TabAt.ne hV.h0.h.b.tab wsp nofun) S.p0s (fun z => by have := hV.h0.h.at_; rw [← z, wsp] at this; cases this)
     obtain ⟨qz, vz, az, bz, cz⟩ := hZ1.at hZ1.h.lt
     have := cz.uniq ht0
     subst this
     refine ⟨_, rfl, _, rfl, _, _, rfl, rfl, ⟨by decide, by decide⟩, rl, _, _, _, rfl, rfl, SqL.of (frl kC), rfl, _, rfl, _, rfl, sp, _, _, _, rfl, rfl, SqL.of wsp2, rfl, r0, _, _, _, rfl, rfl, SqL.of hZ1.row, bL az, .inr ⟨_, _, .tup (SqT.of xt) (.cons (.int _) (.cons (.bl _) .nil)), .tup (SqT.of bz) (.cons (.int _) (.cons (.bl _) .nil)), rfl, rfl, ?_⟩⟩
     rw [bu]
     exact ⟨_, rfl, bw ⟨⟨_, rfl⟩, ⟨kC, kz2 _ _ wlo npo nlo.1 nlo.2.1 nlo.2.2 nofun⟩, _, _, (hV.act0 S hZ1 kq2 d.wr (by omega)).le (by omega), wsp2⟩⟩
    ·refine ⟨_, rfl, _, rfl, D, _, _, _, rfl, rfl, SqL.of (fD kB), rfl, _, rfl, _, _, rfl, rfl, ⟨by decide, by decide⟩, _, _, rfl, rfl, (by show (0 : Int) < 2; decide), o1, dx1, p1, tt0, x1, _, rfl, hV.h1.h, by have := hV.l0; omega, fun vv ss2 Z1 t ht0 d ht1 => ?_⟩
     have l2 := d.wr.len
     have lv := hV.l0
     have st2 := aA ht1 (.tup [.int vv, .bl (opn p1.ns x1)])
     have hZ1 := (hV.h1.did d (by omega)).same st2
     have kq2 : KqS a.tP_heap_look p1.sn o1 W _ := d.ks.trans (KqS.of st2)
     have xt : upd Z1 t (.tup [.int vv, .bl (opn p1.ns x1)]) t = some (.tup [.int vv, .bl (opn p1.ns x1)]) := ak
     generalize upd Z1 t (.tup [.int vv, .bl (opn p1.ns x1)]) = Z3 at *
     have kz2 : KA a.tP_heap_look sn0 sn1 sp W Z3 := kq2.ka hV.h1.h.at_ (.inl (S.sn.trans q0.1))
     have kC := kB.trans kz2
     have wsp2 : Z3 sp = some (.lst [.int (x0 : Int), .int (x1 : Int), .int (y : Int)]) := kq2 _ _ wsp (TabAt.ne hV.h0.h.b.tab wsp nofun) (by rw [S.sn]; exact S.p0s) (fun z => by have := hV.h1.h.at_; rw [← z, wsp] at this; cases this)
     obtain ⟨qz, vz, az, bz, cz⟩ := hZ1.at hZ1.h.lt
     have := cz.uniq ht0
     subst this
     refine ⟨_, rfl, _, rfl, _, _, rfl, rfl, ⟨by decide, by decide⟩, rl, _, _, _, rfl, rfl, SqL.of (frl kC), rfl, _, rfl, _, rfl, sp, _, _, _, rfl, rfl, SqL.of wsp2, rfl, r0, _, _, _, rfl, rfl, SqL.of hZ1.row, bL az, .inr ⟨_, _, .tup (SqT.of xt) (.cons (.int _) (.cons (.bl _) .nil)), .tup (SqT.of bz) (.cons (.int _) (.cons (.bl _) .nil)), rfl, rfl, ?_⟩⟩
     rw [bu]
     exact ⟨_, rfl, bw ⟨⟨_, rfl⟩, ⟨kC, kz2 _ _ wlo npo nlo.1 nlo.2.1 nlo.2.2 nofun⟩, _, _, (hV.act1 S hZ1 kq2 d.wr (by omega)).le (by omega), wsp2⟩⟩
    ·refine ⟨_, rfl, _, rfl, D, _, _, _, rfl, rfl, SqL.of (fD kB), rfl, _, rfl, _, _, rfl, rfl, ⟨by decide, by decide⟩, _, _, rfl, rfl, (by show (0 : Int) < 2; decide), o2, dx2, p2, tt1, y, _, rfl, hV.h2.h, by have := hV.l1; omega, fun vv ss2 Z1 t ht0 d ht1 => ?_⟩
     have l2 := d.wr.len
     have lv := hV.l1
     have st2 := aA ht1 (.tup [.int vv, .bl (opn p2.ns y)])
     have hZ1 := (hV.h2.did d (by omega)).same st2
     have kq2 : KqS a.tP_heap_look p2.sn o2 W _ := d.ks.trans (KqS.of st2)
     have xt : upd Z1 t (.tup [.int vv, .bl (opn p2.ns y)]) t = some (.tup [.int vv, .bl (opn p2.ns y)]) := ak
     generalize upd Z1 t (.tup [.int vv, .bl (opn p2.ns y)]) = Z3 at *
     have kz2 : KA a.tP_heap_look sn0 sn1 sp W Z3 := kq2.ka hV.h2.h.at_ (.inr q2.1)
     have kC := kB.trans kz2
     have wsp2 : Z3 sp = some (.lst [.int (x0 : Int), .int (x1 : Int), .int (y : Int)]) := kq2 _ _ wsp (TabAt.ne hV.h0.h.b.tab wsp nofun) S.p2s (fun z => by have := hV.h2.h.at_; rw [← z, wsp] at this; cases this)
     obtain ⟨qz, vz, az, bz, cz⟩ := hZ1.at hZ1.h.lt
     have := cz.uniq ht0
     subst this
     refine ⟨_, rfl, _, rfl, _, _, rfl, rfl, ⟨by decide, by decide⟩, rl, _, _, _, rfl, rfl, SqL.of (frl kC), rfl, _, rfl, _, rfl, sp, _, _, _, rfl, rfl, SqL.of wsp2, rfl, r1, _, _, _, rfl, rfl, SqL.of hZ1.row, bL az, .inr ⟨_, _, .tup (SqT.of xt) (.cons (.int _) (.cons (.bl _) .nil)), .tup (SqT.of bz) (.cons (.int _) (.cons (.bl _) .nil)), rfl, rfl, ?_⟩⟩
     rw [bu]
     exact ⟨_, rfl, bw ⟨⟨_, rfl⟩, ⟨kC, kz2 _ _ wlo npo nlo.1 nlo.2.1 nlo.2.2 nofun⟩, _, _, (hV.act2 S hZ1 kq2 d.wr (by omega)).le (by omega), wsp2⟩⟩
   ·rintro σ W ⟨⟨k11, rfl⟩, ⟨kB, _⟩, tt0, tt1, hV, wsp⟩
    exact ⟨⟨_, _, _, _, _, rfl⟩, kB, _, _, _, tt0, tt1, hV.le (by simp only [List.length_map, List.length_cons, List.length_nil]; omega), wsp⟩
 ·rintro σ Y ⟨⟨k7, k8, k9, k10, k11, rfl⟩, kA, x0, x1, x2, ss0, ss1, hW, ysp⟩
  have sz : ∀ {ns : List Int} {tt : List Int}, (∀ z ∈ tt, 0 ≤ z ∧ z < (many ns.length : Int)) → ∀ z ∈ tt, 0 ≤ z ∧ z < (((dw ns).map V.int).length : Int) := fun h z hz => by
   have := h z hz
   rw [List.length_map, fH]
   exact this
  have m0 := hW.h0.h.b.ask.asks.nodes
  have m2 := hW.h2.h.b.ask.asks.nodes
  have v0 := hW.h0.h.b.ask.asks.seen
  have v2 := hW.h2.h.b.ask.asks.seen
  rw [q0.2.2] at m0
  rw [q2.2.2] at m2
  rw [q0.1] at v0
  rw [q2.1] at v2
  refine ⟨_, rfl, sl, _, _, _, rfl, rfl, SqL.of (fsl kA), rfl, _, rfl, kl, _, _, _, rfl, rfl, SqL.of (fkl kA), rfl, kr0, _, _, _, rfl, rfl, SqT.of (fk0 kA), rfl, bl0, _, rfl, .inl (SqL.of m0), sn0, ss0, _, rfl, v0, sz hW.b0, _, rfl, gR ?_⟩
  exact ⟨_, rfl, sl, _, _, _, rfl, rfl, SqL.of (fsl kA), rfl, _, rfl, kl, _, _, _, rfl, rfl, SqL.of (fkl kA), rfl, kr1, _, _, _, rfl, rfl, SqT.of (fk1 kA), rfl, bl1, _, rfl, .inl (SqL.of m2), sn1, ss1, _, rfl, v2, sz hW.b1, q _⟩
end
theorem Du {l : PySem.W.OpenLaw} {w : World} {K : PySem.W.Frag} {h : Heap} {mg : Str → Option Value} {fa f0 f1 f2 f3 f4 f5 f6 f7 f8 f9 f10 f11 f12 f13 f14 f15 f16 f17 f18 f19 f20 f21 f22 f23 f24 f25 f26 f27 f28 f29 f30 f31 f32 f33 f34 f35 f36 f37 f38 f39 f40 f41 f42 f43 f44 f45 f46 f47 f48 f49 f50 f51 f52 f53 f54 f55 f56 f57 f58 f59 f60 f61 f62 f63 f64 f65 f66 f67 f68 f69 : Addr} {e0 e1 e2 e3 e4 e5 e6 e7 e8 e9 e10 e11 e12 e13 e14 e15 e16 e17 e18 e19 e20 e21 e22 e23 e24 e25 e26 e27 e28 e29 e30 e31 e32 e33 e34 e35 e37 e38 e39 e40 e41 e42 e43 e44 e45 e46 e47 e48 e49 e50 e51 e52 e53 e54 e55 e56 e57 e58 e59 e60 e61 e62 e63 e65 e66 e67 e68 e69 : FuncData} {od36 an36 od64 an64 : Option Addr} {sl36 sl64 : Array (Option Value)} {oc36 kV36 dc36 pm36 ct36 oc64 kV64 dc64 pm64 ct64 : Value} {tt_BLOCK_BITS tt_MOST_BITS tt_MOST_NODES tt_MOST_NUMBERS : Tok} {c_Hand c_NoBit c_NoNode c_NoOctets c_NoPlace c_NoSign c_NoTree c_NoWord c_TooMany c_Twice c_WoodError : Addr} {tc_heap_look tP_heap_look tc_law_look tP_law_look : Addr} {to_heap_look to_law_look : Value} {td_heap_look td_law_look : Option Addr} {tv_heap_look tv_law_look : Array Value} {ts_heap_look ts_law_look : Array (Option Value)} {qq : Program} {loose : List Str} {mb : Str → Option Value} {mean : ExcName → Option Value} (X : K.In h) (TT : PyProof.Rows.Top qq loose mean mg mb h) (hfa : mg "law" = some (.ref fa))
  (d0 : FI K "_wall" zr f0 e0)
  (d1 : FI K "packed" pB f1 e1)
  (d2 : FI K "check_row" jm f2 e2)
  (d3 : FI K "block_of" kY f3 e3)
  (d4 : FI K "bit_in" pI f4 e4)
  (d5 : FI K "bits_of" mQ f5 e5)
  (d6 : FI K "ones_in" mV f6 e6)
  (d7 : FI K "one_in" qm f7 e7)
  (d8 : FI K "nets_of" nQ f8 e8)
  (d9 : FI K "low_in" pO f9 e9)
  (d10 : FI K "first_low_in" fW f10 e10)
  (d11 : FI K "last_low_in" gQ f11 e11)
  (d12 : FI K "heap_of" mz f12 e12)
  (d13 : FI K "size_of" mL f13 e13)
  (d14 : FI K "lesser_of" jH f14 e14)
  (d15 : FI K "first_at_most" eO f15 e15)
  (d16 : FI K "last_at_most" gq f16 e16)
  (d17 : FI K "place_beneath" eY f17 e17)
  (d18 : FI K "check_stretch" eZ f18 e18)
  (d19 : FI K "cover" ul f19 e19)
  (d20 : FI K "kept_row" kZ f20 e20)
  (d21 : FI K "ahead_of" kJ f21 e21)
  (d22 : FI K "check_place" gO f22 e22)
  (d23 : FI K "bit_at" pZ f23 e23)
  (d24 : FI K "ones_at" nq f24 e24)
  (d25 : FI K "one_place" jG f25 e25)
  (d26 : FI K "check_nth" jq f26 e26)
  (d27 : FI K "last_no_greater" dm f27 e27)
  (d28 : FI K "is_tree" mO f28 e28)
  (d29 : FI K "check_brackets" dI f29 e29)
  (d30 : FI K "kept_brackets" eG f30 e30)
  (d31 : FI K "low_of" p6 f31 e31)
  (d32 : FI K "base_of" nO f32 e32)
  (d33 : FI K "start_within" fY f33 e33)
  (d34 : FI K "end_within" iD f34 e34)
  (d35 : FI K "block_count" gK f35 e35)
  (a36 : PySem.W.nsIn K mainGlobals "heap_look" = some (some (.ref f36))) (l36 : K.lookup f36 = some ⟨oc36, od36, .func (PySem.W.fnOf "heap_look" "heap_look" (defArgs b7) (defBody b7) (defScope b7) .none kV36 dc36 pm36 an36 (.ref tc_heap_look) ct36), sl36⟩) (c36 : PySem.W.codeIn K (.ref tc_heap_look) "heap_look" = true) (k36 : PySem.W.keepIn K (.ref f36) = true)
  (tl_heap_look : K.lookup tc_heap_look = some ⟨to_heap_look, td_heap_look, .fields tv_heap_look, ts_heap_look⟩) (tp_heap_look : tv_heap_look[11]? = some (.ref tP_heap_look)) (tr_heap_look : ∃ d, (PyProof.Rows.recsOf qq).find? (fun e => e.name == ("heap_look" : Str)) = some d)
  (d37 : FI K "height" qj f37 e37)
  (d38 : FI K "low_behind" iM f38 e38)
  (d39 : FI K "first_within" gw f39 e39)
  (d40 : FI K "place_of_bit" fU f40 e40)
  (d41 : FI K "low_ahead" jK f41 e41)
  (d42 : FI K "last_low_upto" eV f42 e42)
  (d43 : FI K "last_within" gH f43 e43)
  (d44 : FI K "check_bracket" dZ f44 e44)
  (d45 : FI K "closing" m5 f45 e45)
  (d46 : FI K "opening" mD f46 e46)
  (d47 : FI K "node_count" iJ f47 e47)
  (d48 : FI K "check_node" iZ f48 e48)
  (d49 : FI K "node_at" nH f49 e49)
  (d50 : FI K "place_of" kI f50 e50)
  (dm51 : Fun K "__init__" "Hand.__init__" jJ f51 e51)
  (dm52 : Fun K "node" "Hand.node" jL f52 e52)
  (dm53 : Fun K "is_opening" "Hand.is_opening" dq f53 e53)
  (dm54 : Fun K "told" "Hand.told" jF f54 e54)
  (dm55 : Fun K "step" "Hand.step" jy f55 e55)
  (dm56 : Fun K "step_back" "Hand.step_back" dH f56 e56)
  (dm57 : Fun K "turn" "Hand.turn" ju f57 e57)
  (dm58 : Fun K "to_node" "Hand.to_node" gf f58 e58)
  (d59 : FI K "check_depths" fZ f59 e59)
  (d60 : FI K "brackets_of" gP f60 e60)
  (d61 : FI K "kept_tree" jE f61 e61)
  (d62 : FI K "_law_depths" iK f62 e62)
  (d63 : FI K "_law_brackets" gj f63 e63)
  (a64 : PySem.W.nsIn K mainGlobals "_law_look" = some (some (.ref f64))) (l64 : K.lookup f64 = some ⟨oc64, od64, .func (PySem.W.fnOf "_law_look" "_law_look" (defArgs cB) (defBody cB) (defScope cB) .none kV64 dc64 pm64 an64 (.ref tc_law_look) ct64), sl64⟩) (c64 : PySem.W.codeIn K (.ref tc_law_look) "_law_look" = true) (k64 : PySem.W.keepIn K (.ref f64) = true)
  (tl_law_look : K.lookup tc_law_look = some ⟨to_law_look, td_law_look, .fields tv_law_look, ts_law_look⟩) (tp_law_look : tv_law_look[11]? = some (.ref tP_law_look)) (tr_law_look : ∃ d, (PyProof.Rows.recsOf qq).find? (fun e => e.name == ("_law_look" : Str)) = some d)
  (d65 : FI K "_law_there" jD f65 e65)
  (d66 : FI K "_law_refused" gG f66 e66)
  (d67 : FI K "_law_done" j8 f67 e67)
  (d68 : FI K "_law_stand" jn f68 e68)
  (d69 : FI K "law" Ab f69 e69)
  (z_ValueError : PySem.W.nsIn K mainGlobals "ValueError" = some none)
  (z_bool : PySem.W.nsIn K mainGlobals "bool" = some none)
  (z_enumerate : PySem.W.nsIn K mainGlobals "enumerate" = some none)
  (z_int : PySem.W.nsIn K mainGlobals "int" = some none)
  (z_isinstance : PySem.W.nsIn K mainGlobals "isinstance" = some none)
  (z_len : PySem.W.nsIn K mainGlobals "len" = some none)
  (z_list : PySem.W.nsIn K mainGlobals "list" = some none)
  (z_max : PySem.W.nsIn K mainGlobals "max" = some none)
  (z_min : PySem.W.nsIn K mainGlobals "min" = some none)
  (z_range : PySem.W.nsIn K mainGlobals "range" = some none)
  (z_reversed : PySem.W.nsIn K mainGlobals "reversed" = some none)
  (z_sum : PySem.W.nsIn K mainGlobals "sum" = some none)
  (z_tuple : PySem.W.nsIn K mainGlobals "tuple" = some none)
  (z_zip : PySem.W.nsIn K mainGlobals "zip" = some none)
  (g_BLOCK_BITS : PySem.W.nsIn K mainGlobals "BLOCK_BITS" = some (some (.int 32 tt_BLOCK_BITS)))
  (g_MOST_BITS : PySem.W.nsIn K mainGlobals "MOST_BITS" = some (some (.int 4096 tt_MOST_BITS)))
  (g_MOST_NODES : PySem.W.nsIn K mainGlobals "MOST_NODES" = some (some (.int 2048 tt_MOST_NODES)))
  (g_MOST_NUMBERS : PySem.W.nsIn K mainGlobals "MOST_NUMBERS" = some (some (.int 4096 tt_MOST_NUMBERS)))
  (q_Hand : PySem.W.nsIn K mainGlobals "Hand" = some (some (.ref c_Hand)))
  (q_NoBit : PySem.W.nsIn K mainGlobals "NoBit" = some (some (.ref c_NoBit)))
  (q_NoNode : PySem.W.nsIn K mainGlobals "NoNode" = some (some (.ref c_NoNode)))
  (q_NoOctets : PySem.W.nsIn K mainGlobals "NoOctets" = some (some (.ref c_NoOctets)))
  (q_NoPlace : PySem.W.nsIn K mainGlobals "NoPlace" = some (some (.ref c_NoPlace)))
  (q_NoSign : PySem.W.nsIn K mainGlobals "NoSign" = some (some (.ref c_NoSign)))
  (q_NoTree : PySem.W.nsIn K mainGlobals "NoTree" = some (some (.ref c_NoTree)))
  (q_NoWord : PySem.W.nsIn K mainGlobals "NoWord" = some (some (.ref c_NoWord)))
  (q_TooMany : PySem.W.nsIn K mainGlobals "TooMany" = some (some (.ref c_TooMany)))
  (q_Twice : PySem.W.nsIn K mainGlobals "Twice" = some (some (.ref c_Twice)))
  (q_WoodError : PySem.W.nsIn K mainGlobals "WoodError" = some (some (.ref c_WoodError)))
  (ex_NoNode : PySem.W.excIn K c_NoNode bmV "ValueError.__new__" = true)
  (ed_NoNode : PySem.W.hasDictIn K c_NoNode = true)
  (ega_NoNode : PySem.W.findIn K (.ref c_NoNode) "__getattribute__" = some (some (.builtin "BaseException.__getattribute__")))
  (eng_NoNode : PySem.W.findIn K (.ref c_NoNode) "__getattr__" = some none)
  (ecl_NoNode : PySem.W.findIn K (.ref c_NoNode) "__class__" = some (some (.builtin "object.__class__")))
  (egt_NoNode : PySem.W.specialIn K (.builtin "object.__class__") "__get__" = some (some (.builtin "getset_descriptor.__get__")))
  (etk_NoNode : PySem.W.takesIn K (.builtin "object.__class__") = some true)
  (emo_NoNode : PySem.W.mroIn K c_NoNode (.type "object") = some true)
  (emb_NoNode : PySem.W.mroIn K c_NoNode (.type "BaseException") = some true)
  (i_NoNode_Hand : PySem.W.kitOne K (.ref c_NoNode) (.ref c_Hand) = some false)
  (i_NoNode_NoBit : PySem.W.kitOne K (.ref c_NoNode) (.ref c_NoBit) = some false)
  (i_NoNode_NoNode : PySem.W.kitOne K (.ref c_NoNode) (.ref c_NoNode) = some true)
  (i_NoNode_NoOctets : PySem.W.kitOne K (.ref c_NoNode) (.ref c_NoOctets) = some false)
  (i_NoNode_NoPlace : PySem.W.kitOne K (.ref c_NoNode) (.ref c_NoPlace) = some false)
  (i_NoNode_NoSign : PySem.W.kitOne K (.ref c_NoNode) (.ref c_NoSign) = some false)
  (i_NoNode_NoTree : PySem.W.kitOne K (.ref c_NoNode) (.ref c_NoTree) = some false)
  (i_NoNode_NoWord : PySem.W.kitOne K (.ref c_NoNode) (.ref c_NoWord) = some false)
  (i_NoNode_TooMany : PySem.W.kitOne K (.ref c_NoNode) (.ref c_TooMany) = some false)
  (i_NoNode_Twice : PySem.W.kitOne K (.ref c_NoNode) (.ref c_Twice) = some false)
  (i_NoNode_WoodError : PySem.W.kitOne K (.ref c_NoNode) (.ref c_WoodError) = some true)
  (i_NoNode_ValueError : PySem.W.kitOne K (.ref c_NoNode) (.type "ValueError") = some true)
  (cl_Hand : Cls K c_Hand)
  (na_Hand_look : PySem.W.findIn K (.ref c_Hand) "look" = some none)
  (na_Hand_place : PySem.W.findIn K (.ref c_Hand) "place" = some none)
  (na_Hand_tables : PySem.W.findIn K (.ref c_Hand) "tables" = some none)
  (mt_Hand_is_opening : Meth K c_Hand "is_opening" f53)
  (mt_Hand_node : Meth K c_Hand "node" f52)
  (mt_Hand_step : Meth K c_Hand "step" f55)
  (mt_Hand_step_back : Meth K c_Hand "step_back" f56)
  (mt_Hand_to_node : Meth K c_Hand "to_node" f58)
  (mt_Hand_told : Meth K c_Hand "told" f54)
  (mt_Hand_turn : Meth K c_Hand "turn" f57)
  (mk_Hand : Mk K c_Hand f51)
  (nt : PySem.W.noTabs K = true)
  (nn_heap_look_law_look : tP_heap_look ≠ tP_law_look) :
  ∃ (fd : FuncData) (tabs : List (Addr × Addr)) (sp : Sp), (∀ (s : Shared) (v : Value), BindsTo s fd ⟨[v], []⟩ [("_law_script", v)]) ∧ PySem.W.TabsAt tabs h ∧ PySem.W.noTabs K = true ∧ (∀ base : Heap, K.In base → base.Ns mainGlobals mg → BMain mg base → (∀ q ∈ tabs, PySem.W.CodeHd base q.1 q.2) → aW l.prog w K mg base CX0 14 fa fd ["_law_script"] sp) ∧
   ∀ (H : Hp) (a : Addr) (ns : List Int), ns.length ≤ 63 → SqL K H a (ns.map V.int) → (∀ q ∈ tabs, H q.2 = some (.tbl #[])) → sp [.ref a] H (fun v _ => v = .bl true) fun _ _ _ => False := by
 have G := TT.g
 have e := hfa.symm.trans (PySem.W.mg_of X G d69.a)
 cases e
 obtain ⟨_, _, _, _, _, _, _, _, _, rfl, _, _⟩ := d69.F.ex
 have F36 := tZ (st := b7) l36 c36 k36
 have D36 : Df K mg "heap_look" b7 ["tables"] _ _ := ⟨F36, F36.binds (ps := ["tables"]) fun _ _ _ _ _ _ us hl => zN (C := fun us => bindArgs _ ⟨us, []⟩ = pure (List.zip (["tables"] : List Str) us)) hl (fun _ => rfl), PySem.W.mg_of X G a36⟩
 have F64 := tZ (st := cB) l64 c64 k64
 have D64 : Df K mg "_law_look" cB ["_law_blocks", "_law_seen"] _ _ := ⟨F64, F64.binds (ps := ["_law_blocks", "_law_seen"]) fun _ _ _ _ _ _ us hl => zO (C := fun us => bindArgs _ ⟨us, []⟩ = pure (List.zip (["_law_blocks", "_law_seen"] : List Str) us)) hl (fun _ _ => rfl), PySem.W.mg_of X G a64⟩
 have T : Tx K mg ⟨tc_heap_look, tP_heap_look, tc_law_look, tP_law_look, _, _, _, _, _, _, _, _, _, _, _, _, _, _, _, _, _, _, _, _, _, _, _, _, _, _, _, _, _, _, _, _, _, _, _, _, _, _, _, _, _, _, _, _, _, _, _, _, _, _, _, _, _, _, _, _, _, _, _, _, _, _, _, _, _, _, _, _, _, _, _, _, _, _, _, _, _, _, _, _, _, _, _, _, _, _, _, _, _, _, _, _, _, _, _, _, _, _, _, _, _, _, _, _, _, _, _, _, _, _, _, _, _, _, _, _, _, _, _, _, _, _, _, _, _, _, _, _, _, _, _, _, _, _, _, _, _, _, _, _, _, _, _, _, c_Hand, c_NoBit, c_NoNode, c_NoOctets, c_NoPlace, c_NoSign, c_NoTree, c_NoWord, c_TooMany, c_Twice, c_WoodError⟩ := ⟨df1 X G d0 fun _ _ _ _ _ _ _ => rfl, df1 X G d1 fun _ _ _ _ _ _ _ => rfl, df1 X G d2 fun _ _ _ _ _ _ _ => rfl, df1 X G d3 fun _ _ _ _ _ _ _ => rfl, df2 X G d4 fun _ _ _ _ _ _ _ _ => rfl, df2 X G d5 fun _ _ _ _ _ _ _ _ => rfl, df2 X G d6 fun _ _ _ _ _ _ _ _ => rfl, df2 X G d7 fun _ _ _ _ _ _ _ _ => rfl, df2 X G d8 fun _ _ _ _ _ _ _ _ => rfl, df2 X G d9 fun _ _ _ _ _ _ _ _ => rfl, df4 X G d10 fun _ _ _ _ _ _ _ _ _ _ => rfl, df4 X G d11 fun _ _ _ _ _ _ _ _ _ _ => rfl, df1 X G d12 fun _ _ _ _ _ _ _ => rfl, df1 X G d13 fun _ _ _ _ _ _ _ => rfl, df2 X G d14 fun _ _ _ _ _ _ _ _ => rfl, df4 X G d15 fun _ _ _ _ _ _ _ _ _ _ => rfl, df4 X G d16 fun _ _ _ _ _ _ _ _ _ _ => rfl, df5 X G d17 fun _ _ _ _ _ _ _ _ _ _ _ => rfl, df3 X G d18 fun _ _ _ _ _ _ _ _ _ => rfl, df3 X G d19 fun _ _ _ _ _ _ _ _ _ => rfl, df1 X G d20 fun _ _ _ _ _ _ _ => rfl, df1 X G d21 fun _ _ _ _ _ _ _ => rfl, df2 X G d22 fun _ _ _ _ _ _ _ _ => rfl, df3 X G d23 fun _ _ _ _ _ _ _ _ _ => rfl, df3 X G d24 fun _ _ _ _ _ _ _ _ _ => rfl, df3 X G d25 fun _ _ _ _ _ _ _ _ _ => rfl, df2 X G d26 fun _ _ _ _ _ _ _ _ => rfl, df2 X G d27 fun _ _ _ _ _ _ _ _ => rfl, df1 X G d28 fun _ _ _ _ _ _ _ => rfl, df1 X G d29 fun _ _ _ _ _ _ _ => rfl, df1 X G d30 fun _ _ _ _ _ _ _ => rfl, df3 X G d31 fun _ _ _ _ _ _ _ _ _ => rfl, df2 X G d32 fun _ _ _ _ _ _ _ _ => rfl, df2 X G d33 fun _ _ _ _ _ _ _ _ => rfl, df2 X G d34 fun _ _ _ _ _ _ _ _ => rfl, df1 X G d35 fun _ _ _ _ _ _ _ => rfl, D36, df3 X G d37 fun _ _ _ _ _ _ _ _ _ => rfl, df4 X G d38 fun _ _ _ _ _ _ _ _ _ _ => rfl, df5 X G d39 fun _ _ _ _ _ _ _ _ _ _ _ => rfl, df2 X G d40 fun _ _ _ _ _ _ _ _ => rfl, df4 X G d41 fun _ _ _ _ _ _ _ _ _ _ => rfl, df4 X G d42 fun _ _ _ _ _ _ _ _ _ _ => rfl, df5 X G d43 fun _ _ _ _ _ _ _ _ _ _ _ => rfl, df4 X G d44 fun _ _ _ _ _ _ _ _ _ _ => rfl, df3 X G d45 fun _ _ _ _ _ _ _ _ _ => rfl, df3 X G d46 fun _ _ _ _ _ _ _ _ _ => rfl, df1 X G d47 fun _ _ _ _ _ _ _ => rfl, df2 X G d48 fun _ _ _ _ _ _ _ _ => rfl, df3 X G d49 fun _ _ _ _ _ _ _ _ _ => rfl, df3 X G d50 fun _ _ _ _ _ _ _ _ _ => rfl, dm3 dm51 fun _ _ _ _ _ _ _ _ _ => rfl, dm1 dm52 fun _ _ _ _ _ _ _ => rfl, dm1 dm53 fun _ _ _ _ _ _ _ => rfl, dm1 dm54 fun _ _ _ _ _ _ _ => rfl, dm1 dm55 fun _ _ _ _ _ _ _ => rfl, dm1 dm56 fun _ _ _ _ _ _ _ => rfl, dm1 dm57 fun _ _ _ _ _ _ _ => rfl, dm2 dm58 fun _ _ _ _ _ _ _ _ => rfl, df1 X G d59 fun _ _ _ _ _ _ _ => rfl, df1 X G d60 fun _ _ _ _ _ _ _ => rfl, df1 X G d61 fun _ _ _ _ _ _ _ => rfl, df2 X G d62 fun _ _ _ _ _ _ _ _ => rfl, df1 X G d63 fun _ _ _ _ _ _ _ => rfl, D64, df2 X G d65 fun _ _ _ _ _ _ _ _ => rfl, df2 X G d66 fun _ _ _ _ _ _ _ _ => rfl, df5 X G d67 fun _ _ _ _ _ _ _ _ _ _ _ => rfl, df2 X G d68 fun _ _ _ _ _ _ _ _ => rfl, df1 X G d69 fun _ _ _ _ _ _ _ => rfl, PySem.W.mg_none_of X G z_ValueError, PySem.W.mg_none_of X G z_bool, PySem.W.mg_none_of X G z_enumerate, PySem.W.mg_none_of X G z_int, PySem.W.mg_none_of X G z_isinstance, PySem.W.mg_none_of X G z_len, PySem.W.mg_none_of X G z_list, PySem.W.mg_none_of X G z_max, PySem.W.mg_none_of X G z_min, PySem.W.mg_none_of X G z_range, PySem.W.mg_none_of X G z_reversed, PySem.W.mg_none_of X G z_sum, PySem.W.mg_none_of X G z_tuple, PySem.W.mg_none_of X G z_zip, PySem.W.mg_of X G g_BLOCK_BITS, PySem.W.mg_of X G g_MOST_BITS, PySem.W.mg_of X G g_MOST_NODES, PySem.W.mg_of X G g_MOST_NUMBERS, PySem.W.mg_of X G q_Hand, PySem.W.mg_of X G q_NoBit, PySem.W.mg_of X G q_NoNode, PySem.W.mg_of X G q_NoOctets, PySem.W.mg_of X G q_NoPlace, PySem.W.mg_of X G q_NoSign, PySem.W.mg_of X G q_NoTree, PySem.W.mg_of X G q_NoWord, PySem.W.mg_of X G q_TooMany, PySem.W.mg_of X G q_Twice, PySem.W.mg_of X G q_WoodError, ⟨PySem.W.mg_of X G q_NoNode, ex_NoNode⟩, ⟨ed_NoNode, ega_NoNode, eng_NoNode, ecl_NoNode, egt_NoNode, etk_NoNode, emo_NoNode, emb_NoNode⟩, i_NoNode_Hand, i_NoNode_NoBit, i_NoNode_NoNode, i_NoNode_NoOctets, i_NoNode_NoPlace, i_NoNode_NoSign, i_NoNode_NoTree, i_NoNode_NoWord, i_NoNode_TooMany, i_NoNode_Twice, i_NoNode_WoodError, i_NoNode_ValueError, cl_Hand, na_Hand_look, na_Hand_place, na_Hand_tables, mt_Hand_is_opening, mt_Hand_node, mt_Hand_step, mt_Hand_step_back, mt_Hand_to_node, mt_Hand_told, mt_Hand_turn, mk_Hand, rfl, rfl⟩
 obtain ⟨d_heap_look, tr_heap_look⟩ := tr_heap_look
 have tb_heap_look := PySem.W.tab_of TT X tr_heap_look (uz a36 l36 rfl tl_heap_look tp_heap_look)
 obtain ⟨d_law_look, tr_law_look⟩ := tr_law_look
 have tb_law_look := PySem.W.tab_of TT X tr_law_look (uz a64 l64 rfl tl_law_look tp_law_look)
 exact ⟨_, [(tc_heap_look, tP_heap_look), (tc_law_look, tP_law_look)], sp_law K tP_heap_look tP_law_look, fun s v => .of_eq rfl, List.forall_mem_cons.mpr ⟨tb_heap_look, List.forall_mem_cons.mpr ⟨tb_law_look, fun _ z => nomatch z⟩⟩, nt, fun base _ _ bm hc => Ds T ⟨bm, hc _ (.head _), hc _ (.tail _ (.head _)), nn_heap_look_law_look⟩, fun H a ns hl hS hTb => yS hS hl (hTb _ (.head _)) (hTb _ (.tail _ (.head _)))⟩
end Tw
namespace Tp
open PySem
noncomputable section
abbrev O := Params → Obj
def sq (l : List Str) : Nat → List Value := @List.rec Str (fun _ => Nat → List Value) (fun _ => []) (fun s _ ih t => Value.str s t :: ih (Nat.add t 1)) l
def ap {α : Type} (a b : List α) : List α := @List.rec α (fun _ => List α) b (fun x _ r => x :: r) a
def tk {α : Type} (l : List α) : Nat → List α := @List.rec α (fun _ => Nat → List α) (fun _ => []) (fun x _ ih n => @Nat.rec (fun _ => List α) [] (fun m _ => x :: ih m) n) l
def mp {α β : Type} (f : α → β) (l : List α) : List β := @List.rec α (fun _ => List β) [] (fun x _ r => f x :: r) l
def ov (l : List O) : List (Nat × O) → List O := @List.rec O (fun _ => List (Nat × O) → List O) (fun _ => []) (fun x _ ih ex => @List.rec (Nat × O) (fun _ => List O) (x :: ih []) (fun e r _ => @Nat.rec (fun _ => List O) (e.2 :: ih r) (fun g _ => x :: ih ((g, e.2) :: r)) e.1) ex) l
def ev (l : List Obj) : Bool → List Obj := @List.rec Obj (fun _ => Bool → List Obj) (fun _ => []) (fun x _ ih b => @Bool.rec (fun _ => List Obj) (ih true) (x :: ih false) b) l
def bt (n : Nat) : List Obj → PySem.W.BT := @Nat.rec (fun _ => List Obj → PySem.W.BT) (fun _ => .nil) (fun _ ih l => @List.rec Obj (fun _ => PySem.W.BT) .nil (fun x xs _ => .node x (ih (ev xs true)) (ih (ev xs false))) l) n
def Z (s : Str) (t : Nat) (v : Value) (P : Params) : DictEntry := .mk (PyData.keyHash P s) (.str s t) v
def E (s : Str) (t r : Nat) (P : Params) : DictEntry := .mk (PyData.keyHash P s) (.str s t) (.ref r)
def gd (l : List (Params → DictEntry)) (n : Nat) (P : Params) : Obj := .mk (.type "dict") none (.dict (mp (fun e => e P) l).toArray n) #[]
def tb (l : List (Nat × Nat)) (P : Params) : Obj := .mk .none none (.fields (@List.rec (Nat × Nat) (fun _ => List Value) [] (fun x _ r => .int (Int.ofNat x.1) 0 :: .int 0 0 :: .ref x.2 :: r) l).toArray) #[]
def h0 (x0 : Nat) (x1 : Nat) (x2 : Nat) (x3 : Nat) (x4 : Nat) (x5 : Nat) (x6 : Nat) (x7 : List Str) (x8 : Str) (x9 : Str) : List O := [fun P => (.mk (.type "tuple") none (.seq #[] 0) #[]), fun P => (.mk .none none (.fields #[]) #[]), fun P => (.mk (.type "tuple") none (.seq (sq x7 (Nat.add x0 3)).toArray 0) #[]), fun P => (.mk (.type "tuple") none (.seq #[] 0) #[]), fun P => (.mk .none none (.func (FuncData.mk x8 x8 (L2.defArgs (Tw.top x1)) (FuncBody.stmts (L2.defBody (Tw.top x1))) (L2.defScope (Tw.top x1)) 0 [] .none .none .none .none none .none .none 0)) #[]), fun P => (.mk (.type "code") none (.fields #[(.str x8 x0), (.str x8 (Nat.add x0 1)), (.str "/claim/cut.py" (Nat.add x0 2)), (.int (Int.ofNat x2) 0), (.int (Int.ofNat x3) 0), (.int 0 0), (.int 0 0), (.int 3 0), (.ref x4), (.bool .true), (.int 181 0), (.ref (Nat.add x4 1)), .none, (.ref (Nat.add x4 2)), (.ref (Nat.add x4 3)), (.ref (Nat.add x4 4)), (.int (Int.ofNat x5) 0), (.int (Int.ofNat x2) 0), (.str "/claim/cut.py" (Nat.add x5 1))]) #[]), fun P => (.mk (.type "function") none (.func (FuncData.mk x8 x8 (L2.defArgs (Tw.top x1)) (FuncBody.stmts (L2.defBody (Tw.top x1))) (L2.defScope (Tw.top x1)) 3 [] .none .none .none (.str x9 x6) none (.ref (Nat.add x4 5)) .none 0)) #[])]
def h1 (x0 : Nat) (x1 : Nat) (x2 : Nat) (x3 : Str) : List O := [fun P => (.mk (.type "tuple") none (.seq #[(.ref 31)] 0) #[]), fun P => (.mk (.type "builtin_function_or_method") none (.fields #[(.builtin "type.__prepare__"), (.type "type")]) #[]), fun P => (.mk (.type "dict") none (.dict #[(.mk (PyData.keyHash P "__module__") (.str "__module__" (Nat.add x0 7)) (.str "thinwood.errors" 194)), (.mk (PyData.keyHash P "__qualname__") (.str "__qualname__" (Nat.add x0 9)) (.str x3 (Nat.add x0 8))), (.mk (PyData.keyHash P "__firstlineno__") (.str "__firstlineno__" (Nat.add x0 11)) (.int (Int.ofNat x1) (Nat.add x0 10))), (.mk (PyData.keyHash P "__static_attributes__") (.str "__static_attributes__" (Nat.add x0 12)) (.ref (Nat.add x2 7)))] 4) #[]), fun P => (.mk (.type "tuple") none (.seq #[] 0) #[]), fun P => (.mk .none none (.fields #[]) #[]), fun P => (.mk (.type "code") none (.fields #[(.str x3 (Nat.add x0 2)), (.str x3 (Nat.add x0 3)), (.str "/claim/cut.py" (Nat.add x0 4)), (.int (Int.ofNat x1) 0), (.int 0 0), (.int 0 0), (.int 0 0), (.int 0 0), (.ref (Nat.add x2 3)), (.bool .false), (.int 181 0), (.ref (Nat.add x2 4)), .none, .none, .none, .none, (.int (Int.ofNat (Nat.add x0 5)) 0), (.int (Int.ofNat x1) 0), (.str "/claim/cut.py" (Nat.add x0 6))]) #[]), fun P => (.mk (.type "frame") none .plain #[(some (.ref (Nat.add x2 5))), (some (.ref 3)), (some (.ref (Nat.add x2 2))), none, (some (.str "thinwood.errors" 194)), none, (some (.ref 0))]), fun P => (.mk (.type "tuple") none (.seq #[] 0) #[]), fun P => (.mk (.type "dict") none (.dict #[(.mk (PyData.keyHash P "__module__") (.str "__module__" (Nat.add x0 7)) (.str "thinwood.errors" 194)), (.mk (PyData.keyHash P "__firstlineno__") (.str "__firstlineno__" (Nat.add x0 11)) (.int (Int.ofNat x1) (Nat.add x0 10))), (.mk (PyData.keyHash P "__static_attributes__") (.str "__static_attributes__" (Nat.add x0 12)) (.ref (Nat.add x2 7))), (.mk (PyData.keyHash P "__doc__") (.str "__doc__" (Nat.add x0 13)) .none)] 2) #[]), fun P => (.mk (.type "type") none (.cls (.mk x3 [(.ref 31)] [(.ref (Nat.add x2 9)), (.ref 31), (.type "ValueError"), (.type "Exception"), (.type "BaseException"), (.type "object")] (Nat.add x2 8) x3 .true [] [] .false none .false)) #[(some (.ref x2)), none, (some (.str x3 x0)), (some (.str x3 (Nat.add x0 8))), (some (.builtin "ValueError.__new__")), (some (.bool .true))]), fun P => (.mk (.type "super") none (.fields #[(.ref (Nat.add x2 9)), (.ref (Nat.add x2 9)), (.ref (Nat.add x2 9))]) #[]), fun P => (.mk (.type "builtin_function_or_method") none (.fields #[(.builtin "object.__init_subclass__"), (.ref (Nat.add x2 9))]) #[])]
def h2 (x0 : Nat) (x1 : Nat) (x2 : Nat) (x3 : Nat) (x4 : Nat) (x5 : Nat) (x6 : Str) (x7 : Str) : List O := [fun P => (.mk (.type "tuple") none (.seq #[] 0) #[]), fun P => (.mk .none none (.fields #[]) #[]), fun P => (.mk .none none (.func (FuncData.mk x6 x6 (L2.defArgs (Tw.top x0)) (FuncBody.stmts (L2.defBody (Tw.top x0))) (L2.defScope (Tw.top x0)) 0 [] .none .none .none .none none .none .none 0)) #[]), fun P => (.mk (.type "code") none (.fields #[(.str x6 x1), (.str x6 (Nat.add x1 1)), (.str "/claim/cut.py" (Nat.add x1 2)), (.int (Int.ofNat x2) 0), (.int (Int.ofNat x3) 0), (.int 0 0), (.int 0 0), (.int 3 0), (.ref x4), (.bool .true), (.int 181 0), (.ref (Nat.add x4 1)), .none, .none, .none, (.ref (Nat.add x4 2)), (.int (Int.ofNat (Nat.add x1 3)) 0), (.int (Int.ofNat x2) 0), (.str "/claim/cut.py" (Nat.add x1 4))]) #[]), fun P => (.mk (.type "function") none (.func (FuncData.mk x6 x6 (L2.defArgs (Tw.top x0)) (FuncBody.stmts (L2.defBody (Tw.top x0))) (L2.defScope (Tw.top x0)) 3 [] .none .none .none (.str x7 x5) none (.ref (Nat.add x4 3)) .none 0)) #[])]
def h3 (x0 : Nat) (x1 : Nat) (x2 : Nat) (x3 : Nat) (x4 : Nat) (x5 : Nat) (x6 : List Str) (x7 : Str) (x8 : Str) : List O := [fun P => (.mk (.type "tuple") none (.seq #[] 0) #[]), fun P => (.mk .none none (.fields #[]) #[]), fun P => (.mk (.type "tuple") none (.seq (sq x6 (Nat.add x0 3)).toArray 0) #[]), fun P => (.mk (.type "tuple") none (.seq #[] 0) #[]), fun P => (.mk .none none (.func (FuncData.mk x7 x8 (L2.defArgs (L2.inClass (Tw.top 71) x1)) (FuncBody.stmts (L2.defBody (L2.inClass (Tw.top 71) x1))) (L2.defScope (L2.inClass (Tw.top 71) x1)) 0 [] .none .none .none .none none .none .none 0)) #[]), fun P => (.mk (.type "code") none (.fields #[(.str x7 x0), (.str x8 (Nat.add x0 1)), (.str "/claim/cut.py" (Nat.add x0 2)), (.int (Int.ofNat x2) 0), (.int (Int.ofNat x3) 0), (.int 0 0), (.int 0 0), (.int 3 0), (.ref x4), (.bool .true), (.int 181 0), (.ref (Nat.add x4 1)), .none, (.ref (Nat.add x4 2)), (.ref (Nat.add x4 3)), (.ref (Nat.add x4 4)), (.int (Int.ofNat x5) 0), (.int (Int.ofNat x2) 0), (.str "/claim/cut.py" (Nat.add x5 1))]) #[]), fun P => (.mk (.type "function") none (.func (FuncData.mk x7 x8 (L2.defArgs (L2.inClass (Tw.top 71) x1)) (FuncBody.stmts (L2.defBody (L2.inClass (Tw.top 71) x1))) (L2.defScope (L2.inClass (Tw.top 71) x1)) 3 [] .none .none .none (.str "thinwood.hands" 845) none (.ref (Nat.add x4 5)) .none 0)) #[])]
def g0 : List (Params → DictEntry) := [Z "__doc__" 166 .none, Z "__package__" 167 .none, Z "__loader__" 168 (.builtin "__main__.__loader__#opaque"), Z "__spec__" 169 .none, E "__annotations__" 170 6, E "__builtins__" 171 4, Z "__file__" 173 (.str "/claim/cut.py" 172), Z "__cached__" 174 .none, E "_wall" 193 21, E "WoodError" 213 31]
def g1 : List (Params → DictEntry) := [E "TooMany" 229 44, E "NoBit" 245 56, E "NoPlace" 261 68, E "NoNode" 277 80, E "NoTree" 293 92, E "NoSign" 309 104, E "NoWord" 325 116, E "Twice" 341 128, E "NoOctets" 357 140, Z "BLOCK_BITS" 361 (.int 32 360)]
def g2 : List (Params → DictEntry) := [Z "MOST_BITS" 363 (.int 4096 362), E "packed" 369 147, E "check_row" 377 154, E "block_of" 386 161, E "bit_in" 394 168, E "bits_of" 400 173, E "ones_in" 408 180, E "one_in" 419 187, E "nets_of" 430 194, E "low_in" 438 201]
def g3 : List (Params → DictEntry) := [E "first_low_in" 450 208, E "last_low_in" 463 215, Z "MOST_NUMBERS" 467 (.int 4096 466), E "heap_of" 477 222, E "size_of" 485 229, E "lesser_of" 493 236, E "first_at_most" 504 243, E "last_at_most" 515 250, E "place_beneath" 527 257, E "check_stretch" 536 264]
def g4 : List (Params → DictEntry) := [E "cover" 550 271, E "kept_row" 560 278, E "ahead_of" 569 285, E "check_place" 577 292, E "bit_at" 586 299, E "ones_at" 599 306, E "one_place" 610 313, E "check_nth" 618 320, E "last_no_greater" 629 327, E "is_tree" 641 334]
def g5 : List (Params → DictEntry) := [E "check_brackets" 648 341, E "kept_brackets" 654 346, E "low_of" 663 353, E "base_of" 671 360, E "start_within" 679 367, E "end_within" 687 374, E "block_count" 694 381, E "heap_look" 702 388, E "height" 711 395, E "low_behind" 724 402]
def g6 : List (Params → DictEntry) := [E "first_within" 737 409, E "place_of_bit" 745 416, E "low_ahead" 756 423, E "last_low_upto" 769 430, E "last_within" 781 437, E "check_bracket" 791 444, E "closing" 800 451, E "opening" 809 458, E "node_count" 818 465, E "check_node" 826 472]
def g7 : List (Params → DictEntry) := [E "node_at" 835 479, E "place_of" 844 486, E "Hand" 964 587, Z "MOST_NODES" 968 (.int 2048 967), E "check_depths" 977 598, E "brackets_of" 987 605, E "kept_tree" 994 612, E "_law_depths" 1010 619, E "_law_brackets" 1020 626, E "_law_look" 1031 633]
def g8 : List (Params → DictEntry) := [E "_law_there" 1040 640, E "_law_refused" 1051 647, E "_law_done" 1065 654, E "_law_stand" 1075 661, E "law" 1081 666]
def gg : List (Params → DictEntry) := ap g0 (ap g1 (ap g2 (ap g3 (ap g4 (ap g5 (ap g6 (ap g7 (g8))))))))
def tt : List (Nat × Nat) := [(1, 20), (5, 27), (7, 40), (9, 52), (11, 64), (13, 76), (15, 88), (17, 100), (19, 112), (21, 124), (23, 136), (28, 146), (31, 153), (37, 160), (42, 167), (44, 172), (46, 179), (48, 186), (55, 193), (62, 200), (64, 207), (69, 214), (77, 221), (85, 228), (90, 235), (96, 242), (101, 249), (106, 256), (113, 263), (116, 270), (134, 277), (137, 284), (142, 291), (145, 298), (148, 305), (157, 312), (162, 319), (165, 326), (176, 333), (183, 340), (187, 345), (194, 352), (196, 359), (198, 366), (200, 373), (202, 380), (204, 387), (207, 394), (209, 401), (221, 408), (225, 415), (229, 422), (235, 429), (246, 436), (249, 443), (252, 450), (255, 457), (259, 464), (261, 471), (264, 478), (268, 485), (272, 492), (323, 597), (331, 604), (340, 611), (343, 618), (356, 625), (367, 632), (375, 639), (380, 646), (388, 653), (417, 660), (423, 665)]
def s0 : O := gd (Z "__name__" 165 (.str "law_thinwood_k52_hands_apart" 995) :: tk gg 85) 86
def l0 : O := fun P => (.mk (.type "tuple") none (.seq #[] 0) #[])
def s1 : O := tb (tk tt 73)
def l1 : O := fun P => (.mk (.type "code") none (.fields #[(.str "<module>" 182), (.str "<module>" 183), (.str "/claim/cut.py" 184), (.int 1 0), (.int 0 0), (.int 0 0), (.int 0 0), (.int 0 0), (.ref 11), (.bool .false), (.int 181 0), (.ref 12), .none, .none, .none, .none, (.int 185 0), (.int 1 0), (.str "/claim/cut.py" 186)]) #[])
def l2 : O := fun P => (.mk (.type "frame") none .plain #[(some (.ref 13)), (some (.ref 3)), (some (.ref 3)), none, (some (.str "__main__" 164)), none, (some (.ref 0))])
def d1 : List O := h0 187 0 1 1 15 191 164 ["k"] "_wall" "__main__"
def l3 : O := fun P => (.mk (.type "tuple") none (.seq #[(.type "ValueError")] 0) #[])
def l4 : O := fun P => (.mk (.type "builtin_function_or_method") none (.fields #[(.builtin "type.__prepare__"), (.type "type")]) #[])
def l5 : O := fun P => (.mk (.type "dict") none (.dict #[(.mk (PyData.keyHash P "__module__") (.str "__module__" 203) (.str "thinwood.errors" 194)), (.mk (PyData.keyHash P "__qualname__") (.str "__qualname__" 205) (.str "WoodError" 204)), (.mk (PyData.keyHash P "__firstlineno__") (.str "__firstlineno__" 207) (.int 5 206)), (.mk (PyData.keyHash P "__static_attributes__") (.str "__static_attributes__" 208) (.ref 29))] 4) #[])
def l6 : O := fun P => (.mk .none none (.fields #[]) #[])
def l7 : O := fun P => (.mk (.type "code") none (.fields #[(.str "WoodError" 198), (.str "WoodError" 199), (.str "/claim/cut.py" 200), (.int 5 0), (.int 0 0), (.int 0 0), (.int 0 0), (.int 0 0), (.ref 25), (.bool .false), (.int 181 0), (.ref 26), .none, .none, .none, .none, (.int 201 0), (.int 5 0), (.str "/claim/cut.py" 202)]) #[])
def l8 : O := fun P => (.mk (.type "frame") none .plain #[(some (.ref 27)), (some (.ref 3)), (some (.ref 24)), none, (some (.str "thinwood.errors" 194)), none, (some (.ref 0))])
def l9 : O := fun P => (.mk (.type "dict") none (.dict #[(.mk (PyData.keyHash P "__module__") (.str "__module__" 203) (.str "thinwood.errors" 194)), (.mk (PyData.keyHash P "__firstlineno__") (.str "__firstlineno__" 207) (.int 5 206)), (.mk (PyData.keyHash P "__static_attributes__") (.str "__static_attributes__" 208) (.ref 29)), (.mk (PyData.keyHash P "__weakref__") (.str "__weakref__" 210) (.ref 32)), (.mk (PyData.keyHash P "__doc__") (.str "__doc__" 211) .none)] 3) #[])
def l10 : O := fun P => (.mk (.type "type") none (.cls (.mk "WoodError" [(.type "ValueError")] [(.ref 31), (.type "ValueError"), (.type "Exception"), (.type "BaseException"), (.type "object")] 30 "WoodError" .true [] [(.ref 44), (.ref 56), (.ref 68), (.ref 80), (.ref 92), (.ref 104), (.ref 116), (.ref 128), (.ref 140)] .false none .false)) #[(some (.ref 22)), none, (some (.str "WoodError" 196)), (some (.str "WoodError" 204)), (some (.builtin "ValueError.__new__")), (some (.bool .true))])
def l11 : O := fun P => (.mk (.type "getset_descriptor") none (.fields #[(.str "__weakref__" 209), (.ref 31), (.builtin "ExceptionGroup.__weakref__"), .none]) #[])
def l12 : O := fun P => (.mk (.type "super") none (.fields #[(.ref 31), (.ref 31), (.ref 31)]) #[])
def l13 : O := fun P => (.mk (.type "builtin_function_or_method") none (.fields #[(.builtin "object.__init_subclass__"), (.ref 31)]) #[])
def d3 : List O := h1 214 7 35 "TooMany"
def d4 : List O := h1 230 9 47 "NoBit"
def d5 : List O := h1 246 11 59 "NoPlace"
def d6 : List O := h1 262 13 71 "NoNode"
def d7 : List O := h1 278 15 83 "NoTree"
def d8 : List O := h1 294 17 95 "NoSign"
def d9 : List O := h1 310 19 107 "NoWord"
def d10 : List O := h1 326 21 119 "Twice"
def d11 : List O := h1 342 23 131 "NoOctets"
def d12 : List O := h2 15 364 28 1 143 358 "packed" "thinwood.blocks"
def d13 : List O := h0 370 16 31 1 148 375 358 ["bits", "bit"] "check_row" "thinwood.blocks"
def d14 : List O := h0 378 17 37 1 155 384 358 ["bits", "block", "bit"] "block_of" "thinwood.blocks"
def d15 : List O := h0 387 18 42 2 162 392 358 ["block", "k"] "bit_in" "thinwood.blocks"
def d16 : List O := h2 19 395 44 2 169 358 "bits_of" "thinwood.blocks"
def d17 : List O := h0 401 20 46 2 174 406 358 ["block", "upto"] "ones_in" "thinwood.blocks"
def d18 : List O := h0 409 21 48 2 181 417 358 ["block", "nth", "ones", "k", "bit"] "one_in" "thinwood.blocks"
def d19 : List O := h0 420 22 55 2 188 428 358 ["block", "upto", "nets", "net", "bit"] "nets_of" "thinwood.blocks"
def d20 : List O := h0 431 23 62 2 195 436 358 ["block", "upto"] "low_in" "thinwood.blocks"
def d21 : List O := h0 439 24 64 4 202 448 358 ["block", "start", "stop", "goal", "k", "net"] "first_low_in" "thinwood.blocks"
def d22 : List O := h0 451 25 69 4 209 461 358 ["block", "start", "stop", "goal", "found", "k", "net"] "last_low_in" "thinwood.blocks"
def d23 : List O := h0 468 28 77 1 216 475 464 ["numbers", "size", "nodes", "node"] "heap_of" "thinwood.heaps"
def d24 : List O := h0 478 29 85 1 223 483 464 ["many", "size"] "size_of" "thinwood.heaps"
def d25 : List O := h0 486 30 90 2 230 491 464 ["one", "other"] "lesser_of" "thinwood.heaps"
def d26 : List O := h0 494 31 96 4 237 502 464 ["many", "look", "start", "goal", "node"] "first_at_most" "thinwood.heaps"
def d27 : List O := h0 505 32 101 4 244 513 464 ["many", "look", "stop", "goal", "node"] "last_at_most" "thinwood.heaps"
def d28 : List O := h0 516 33 106 5 251 525 464 ["size", "look", "node", "goal", "side", "found"] "place_beneath" "thinwood.heaps"
def d29 : List O := h0 528 34 113 3 258 534 464 ["many", "start", "stop"] "check_stretch" "thinwood.heaps"
def d30 : List O := h0 537 35 116 3 265 548 464 ["many", "start", "stop", "size", "low", "high", "lefts", "rights"] "cover" "thinwood.heaps"
def d31 : List O := h0 553 37 134 1 272 558 551 ["bits", "blocks"] "kept_row" "thinwood.rows"
def d32 : List O := h0 561 38 137 1 279 567 551 ["blocks", "ahead", "block"] "ahead_of" "thinwood.rows"
def d33 : List O := h0 570 39 142 2 286 575 551 ["at", "most"] "check_place" "thinwood.rows"
def d34 : List O := h0 578 40 145 3 293 584 551 ["tables", "look", "at"] "bit_at" "thinwood.rows"
def d35 : List O := h0 587 41 148 3 300 597 551 ["tables", "look", "at", "many", "ahead", "number", "within"] "ones_at" "thinwood.rows"
def d36 : List O := h0 600 42 157 3 307 608 551 ["tables", "look", "nth", "ahead", "number"] "one_place" "thinwood.rows"
def d37 : List O := h0 611 43 162 2 314 616 551 ["nth", "many"] "check_nth" "thinwood.rows"
def d38 : List O := h0 619 44 165 2 321 627 551 ["numbers", "goal", "low", "high", "middle"] "last_no_greater" "thinwood.rows"
def d39 : List O := h0 632 46 176 1 328 639 630 ["bits", "level", "at", "bit"] "is_tree" "thinwood.brackets"
def d40 : List O := h0 642 47 183 1 335 646 630 ["bits"] "check_brackets" "thinwood.brackets"
def d41 : List O := h2 48 649 187 1 342 630 "kept_brackets" "thinwood.brackets"
def d42 : List O := h0 655 49 194 3 347 661 630 ["tables", "number", "block"] "low_of" "thinwood.brackets"
def d43 : List O := h0 664 50 196 2 354 669 630 ["tables", "number"] "base_of" "thinwood.brackets"
def d44 : List O := h0 672 51 198 2 361 677 630 ["number", "at"] "start_within" "thinwood.brackets"
def d45 : List O := h0 680 52 200 2 368 685 630 ["number", "upto"] "end_within" "thinwood.brackets"
def d46 : List O := h0 688 53 202 1 375 692 630 ["tables"] "block_count" "thinwood.brackets"
def l14 : O := fun P => (.mk (.type "tuple") none (.seq #[(.str "tables" 698)] 0) #[])
def l15 : O := fun P => (.mk (.type "tuple") none (.seq #[(.str "nodes" 699)] 0) #[])
def l16 : O := fun P => (.mk .none none (.func (FuncData.mk "heap_look" "heap_look" (L2.defArgs (Tw.top 54)) (FuncBody.stmts (L2.defBody (Tw.top 54))) (L2.defScope (Tw.top 54)) 0 [] .none .none .none .none none .none .none 0)) #[])
def l17 : O := fun P => (.mk (.type "code") none (.fields #[(.str "heap_look" 695), (.str "heap_look" 696), (.str "/claim/cut.py" 697), (.int 204 0), (.int 1 0), (.int 0 0), (.int 0 0), (.int 3 0), (.ref 382), (.bool .true), (.int 181 0), (.ref 383), .none, (.ref 384), (.ref 385), (.ref 386), (.int 700 0), (.int 204 0), (.str "/claim/cut.py" 701)]) #[])
def l18 : O := fun P => (.mk (.type "function") none (.func (FuncData.mk "heap_look" "heap_look" (L2.defArgs (Tw.top 54)) (FuncBody.stmts (L2.defBody (Tw.top 54))) (L2.defScope (Tw.top 54)) 3 [] .none .none .none (.str "thinwood.brackets" 630) none (.ref 387) .none 0)) #[])
def d48 : List O := h0 703 55 207 3 389 709 630 ["tables", "look", "at"] "height" "thinwood.brackets"
def d49 : List O := h0 712 56 209 4 396 722 630 ["tables", "look", "at", "goal", "number", "found", "further"] "low_behind" "thinwood.brackets"
def d50 : List O := h0 725 57 221 5 403 735 630 ["tables", "look", "number", "at", "goal", "start", "stop"] "first_within" "thinwood.brackets"
def d51 : List O := h0 738 58 225 2 410 743 630 ["number", "within"] "place_of_bit" "thinwood.brackets"
def d52 : List O := h0 746 59 229 4 417 754 630 ["tables", "look", "at", "goal", "found"] "low_ahead" "thinwood.brackets"
def d53 : List O := h0 757 60 235 4 424 767 630 ["tables", "look", "upto", "goal", "number", "found", "further"] "last_low_upto" "thinwood.brackets"
def d54 : List O := h0 770 61 246 5 431 779 630 ["tables", "look", "number", "upto", "goal", "stop"] "last_within" "thinwood.brackets"
def d55 : List O := h0 782 62 249 4 438 789 630 ["tables", "look", "at", "bit"] "check_bracket" "thinwood.brackets"
def d56 : List O := h0 792 63 252 3 445 798 630 ["tables", "look", "at"] "closing" "thinwood.brackets"
def d57 : List O := h0 801 64 255 3 452 807 630 ["tables", "look", "at"] "opening" "thinwood.brackets"
def d58 : List O := h0 812 66 259 1 459 816 810 ["tables"] "node_count" "thinwood.trees"
def d59 : List O := h0 819 67 261 2 466 824 810 ["tables", "node"] "check_node" "thinwood.trees"
def d60 : List O := h0 827 68 264 3 473 833 810 ["tables", "look", "at"] "node_at" "thinwood.trees"
def d61 : List O := h0 836 69 268 3 480 842 810 ["tables", "look", "node"] "place_of" "thinwood.trees"
def l19 : O := fun P => (.mk (.type "dict") none (.dict #[(.mk (PyData.keyHash P "__module__") (.str "__module__" 854) (.str "thinwood.hands" 845)), (.mk (PyData.keyHash P "__qualname__") (.str "__qualname__" 856) (.str "Hand" 855)), (.mk (PyData.keyHash P "__firstlineno__") (.str "__firstlineno__" 858) (.int 272 857)), (.mk (PyData.keyHash P "__init__") (.str "__init__" 867) (.ref 500)), (.mk (PyData.keyHash P "node") (.str "node" 874) (.ref 507)), (.mk (PyData.keyHash P "is_opening") (.str "is_opening" 881) (.ref 514)), (.mk (PyData.keyHash P "told") (.str "told" 888) (.ref 521)), (.mk (PyData.keyHash P "step") (.str "step" 895) (.ref 528)), (.mk (PyData.keyHash P "step_back") (.str "step_back" 902) (.ref 535)), (.mk (PyData.keyHash P "turn") (.str "turn" 909) (.ref 542)), (.mk (PyData.keyHash P "to_elder") (.str "to_elder" 916) (.ref 549)), (.mk (PyData.keyHash P "to_first") (.str "to_first" 923) (.ref 556)), (.mk (PyData.keyHash P "to_younger") (.str "to_younger" 930) (.ref 563)), (.mk (PyData.keyHash P "to_older") (.str "to_older" 937) (.ref 570)), (.mk (PyData.keyHash P "to_found") (.str "to_found" 945) (.ref 577)), (.mk (PyData.keyHash P "to_node") (.str "to_node" 953) (.ref 584)), (.mk (PyData.keyHash P "__static_attributes__") (.str "__static_attributes__" 957) (.ref 585))] 17) #[])
def l20 : O := fun P => (.mk .none none (.fields #[(.int 274 0), (.int 4 0), (.ref 499), (.int 279 0), (.int 4 0), (.ref 506), (.int 282 0), (.int 4 0), (.ref 513), (.int 285 0), (.int 4 0), (.ref 520), (.int 288 0), (.int 4 0), (.ref 527), (.int 292 0), (.int 4 0), (.ref 534), (.int 296 0), (.int 4 0), (.ref 541), (.int 303 0), (.int 4 0), (.ref 548), (.int 306 0), (.int 4 0), (.ref 555), (.int 309 0), (.int 4 0), (.ref 562), (.int 312 0), (.int 4 0), (.ref 569), (.int 315 0), (.int 4 0), (.ref 576), (.int 318 0), (.int 4 0), (.ref 583)]) #[])
def l21 : O := fun P => (.mk (.type "code") none (.fields #[(.str "Hand" 849), (.str "Hand" 850), (.str "/claim/cut.py" 851), (.int 272 0), (.int 0 0), (.int 0 0), (.int 0 0), (.int 0 0), (.ref 490), (.bool .false), (.int 181 0), (.ref 491), .none, .none, .none, .none, (.int 852 0), (.int 272 0), (.str "/claim/cut.py" 853)]) #[])
def l22 : O := fun P => (.mk (.type "frame") none .plain #[(some (.ref 492)), (some (.ref 3)), (some (.ref 489)), none, (some (.str "thinwood.hands" 845)), none, (some (.ref 0))])
def d63 : List O := h3 859 0 274 3 494 865 ["self", "tables", "look"] "__init__" "Hand.__init__"
def d64 : List O := h3 868 1 279 1 501 872 ["self"] "node" "Hand.node"
def d65 : List O := h3 875 2 282 1 508 879 ["self"] "is_opening" "Hand.is_opening"
def d66 : List O := h3 882 3 285 1 515 886 ["self"] "told" "Hand.told"
def d67 : List O := h3 889 4 288 1 522 893 ["self"] "step" "Hand.step"
def d68 : List O := h3 896 5 292 1 529 900 ["self"] "step_back" "Hand.step_back"
def d69 : List O := h3 903 6 296 1 536 907 ["self"] "turn" "Hand.turn"
def d70 : List O := h3 910 7 303 1 543 914 ["self"] "to_elder" "Hand.to_elder"
def d71 : List O := h3 917 8 306 1 550 921 ["self"] "to_first" "Hand.to_first"
def d72 : List O := h3 924 9 309 1 557 928 ["self"] "to_younger" "Hand.to_younger"
def d73 : List O := h3 931 10 312 1 564 935 ["self"] "to_older" "Hand.to_older"
def d74 : List O := h3 938 11 315 2 571 943 ["self", "found"] "to_found" "Hand.to_found"
def d75 : List O := h3 946 12 318 2 578 951 ["self", "node"] "to_node" "Hand.to_node"
def l23 : O := fun P => (.mk (.type "tuple") none (.seq #[(.str "look" 954), (.str "place" 955), (.str "tables" 956)] 0) #[])
def l24 : O := fun P => (.mk (.type "dict") none (.dict #[(.mk (PyData.keyHash P "__module__") (.str "__module__" 854) (.str "thinwood.hands" 845)), (.mk (PyData.keyHash P "__firstlineno__") (.str "__firstlineno__" 858) (.int 272 857)), (.mk (PyData.keyHash P "__init__") (.str "__init__" 867) (.ref 500)), (.mk (PyData.keyHash P "node") (.str "node" 874) (.ref 507)), (.mk (PyData.keyHash P "is_opening") (.str "is_opening" 881) (.ref 514)), (.mk (PyData.keyHash P "told") (.str "told" 888) (.ref 521)), (.mk (PyData.keyHash P "step") (.str "step" 895) (.ref 528)), (.mk (PyData.keyHash P "step_back") (.str "step_back" 902) (.ref 535)), (.mk (PyData.keyHash P "turn") (.str "turn" 909) (.ref 542)), (.mk (PyData.keyHash P "to_elder") (.str "to_elder" 916) (.ref 549)), (.mk (PyData.keyHash P "to_first") (.str "to_first" 923) (.ref 556)), (.mk (PyData.keyHash P "to_younger") (.str "to_younger" 930) (.ref 563)), (.mk (PyData.keyHash P "to_older") (.str "to_older" 937) (.ref 570)), (.mk (PyData.keyHash P "to_found") (.str "to_found" 945) (.ref 577)), (.mk (PyData.keyHash P "to_node") (.str "to_node" 953) (.ref 584)), (.mk (PyData.keyHash P "__static_attributes__") (.str "__static_attributes__" 957) (.ref 585)), (.mk (PyData.keyHash P "__dict__") (.str "__dict__" 959) (.ref 588)), (.mk (PyData.keyHash P "__weakref__") (.str "__weakref__" 961) (.ref 589)), (.mk (PyData.keyHash P "__doc__") (.str "__doc__" 962) .none)] 4) #[])
def l25 : O := fun P => (.mk (.type "type") none (.cls (.mk "Hand" [(.type "object")] [(.ref 587), (.type "object")] 586 "Hand" .true [] [] .false none .false)) #[none, none, (some (.str "Hand" 847)), (some (.str "Hand" 855)), (some (.builtin "object.__new__")), (some (.bool .true))])
def l26 : O := fun P => (.mk (.type "getset_descriptor") none (.fields #[(.str "__dict__" 958), (.ref 587), (.builtin "function.__dict__"), (.builtin "function.__dict__#set")]) #[])
def l27 : O := fun P => (.mk (.type "getset_descriptor") none (.fields #[(.str "__weakref__" 960), (.ref 587), (.builtin "ExceptionGroup.__weakref__"), .none]) #[])
def l28 : O := fun P => (.mk (.type "super") none (.fields #[(.ref 587), (.ref 587), (.ref 587)]) #[])
def l29 : O := fun P => (.mk (.type "builtin_function_or_method") none (.fields #[(.builtin "object.__init_subclass__"), (.ref 587)]) #[])
def d77 : List O := h0 969 74 323 1 592 975 965 ["depths", "ahead", "depth"] "check_depths" "thinwood.shapes"
def d78 : List O := h0 978 75 331 1 599 985 965 ["depths", "bits", "unclosed", "depth"] "brackets_of" "thinwood.shapes"
def d79 : List O := h0 988 76 340 1 606 992 965 ["depths"] "kept_tree" "thinwood.shapes"
def d80 : List O := h0 997 78 343 2 613 1008 995 ["_law_cells", "_law_most", "_law_depths_here", "_law_cell", "_law_number", "_law_deep", "_law_many", "_law_k"] "_law_depths" "law_thinwood_k52_hands_apart"
def d81 : List O := h0 1011 79 356 1 620 1018 995 ["_law_depths_here", "_law_row", "_law_path", "_law_node"] "_law_brackets" "law_thinwood_k52_hands_apart"
def l30 : O := fun P => (.mk (.type "tuple") none (.seq #[(.str "_law_blocks" 1024), (.str "_law_seen" 1025), (.str "_law_told" 1026)] 0) #[])
def l31 : O := fun P => (.mk (.type "tuple") none (.seq #[(.str "_law_blocks" 1027), (.str "_law_seen" 1028)] 0) #[])
def l32 : O := fun P => (.mk .none none (.func (FuncData.mk "_law_look" "_law_look" (L2.defArgs (Tw.top 80)) (FuncBody.stmts (L2.defBody (Tw.top 80))) (L2.defScope (Tw.top 80)) 0 [] .none .none .none .none none .none .none 0)) #[])
def l33 : O := fun P => (.mk (.type "code") none (.fields #[(.str "_law_look" 1021), (.str "_law_look" 1022), (.str "/claim/cut.py" 1023), (.int 367 0), (.int 2 0), (.int 0 0), (.int 0 0), (.int 3 0), (.ref 627), (.bool .true), (.int 181 0), (.ref 628), .none, (.ref 629), (.ref 630), (.ref 631), (.int 1029 0), (.int 367 0), (.str "/claim/cut.py" 1030)]) #[])
def l34 : O := fun P => (.mk (.type "function") none (.func (FuncData.mk "_law_look" "_law_look" (L2.defArgs (Tw.top 80)) (FuncBody.stmts (L2.defBody (Tw.top 80))) (L2.defScope (Tw.top 80)) 3 [] .none .none .none (.str "law_thinwood_k52_hands_apart" 995) none (.ref 632) .none 0)) #[])
def d83 : List O := h0 1032 81 375 2 634 1038 995 ["_law_seen", "_law_size", "_law_number"] "_law_there" "law_thinwood_k52_hands_apart"
def d84 : List O := h0 1041 82 380 2 641 1049 995 ["_law_hand", "_law_node", "_law_told_here", "e", "_law_others"] "_law_refused" "law_thinwood_k52_hands_apart"
def d85 : List O := h0 1052 83 388 5 648 1063 995 ["_law_hand", "_law_row", "_law_spot", "_law_number", "_law_far", "_law_many", "_law_way", "_law_found"] "_law_done" "law_thinwood_k52_hands_apart"
def d86 : List O := h0 1066 84 417 2 655 1073 995 ["_law_hand", "_law_first", "_law_node", "_law_there_here"] "_law_stand" "law_thinwood_k52_hands_apart"
def d87 : List O := h2 85 1076 423 1 662 995 "law" "law_thinwood_k52_hands_apart"
def f0 : List O := ap [PySem.W.boot_o_0, PySem.W.boot_o_1, PySem.W.boot_o_2, s0, PySem.W.boot_o_4, PySem.W.boot_o_5, PySem.W.boot_o_6, PySem.W.boot_o_7, PySem.W.boot_o_8, PySem.W.boot_o_9, PySem.W.boot_o_10, l0, s1, l1, l2] (ap d1 (ap [l3, l4, l5, l0, l6, l7, l8, l0, l9, l10, l11, l12, l13] (ap d3 (ap d4 (ap d5 (ap d6 (ap d7 (ap d8 (d9)))))))))
def f1 : List O := ap d10 (ap d11 (ap d12 (ap d13 (ap d14 (ap d15 (ap d16 (ap d17 (ap d18 (d19)))))))))
def f2 : List O := ap d20 (ap d21 (ap d22 (ap d23 (ap d24 (ap d25 (ap d26 (ap d27 (ap d28 (d29)))))))))
def f3 : List O := ap d30 (ap d31 (ap d32 (ap d33 (ap d34 (ap d35 (ap d36 (ap d37 (ap d38 (d39)))))))))
def f4 : List O := ap d40 (ap d41 (ap d42 (ap d43 (ap d44 (ap d45 (ap d46 (ap [l0, l6, l14, l15, l16, l17, l18] (ap d48 (d49)))))))))
def f5 : List O := ap d50 (ap d51 (ap d52 (ap d53 (ap d54 (ap d55 (ap d56 (ap d57 (ap d58 (d59)))))))))
def f6 : List O := ap d60 (ap d61 (ap [l0, l4, l19, l0, l20, l21, l22] (ap d63 (ap d64 (ap d65 (ap d66 (ap d67 (ap d68 (d69)))))))))
def f7 : List O := ap d70 (ap d71 (ap d72 (ap d73 (ap d74 (ap d75 (ap [l23, l24, l25, l26, l27, l28, l29] (ap d77 (ap d78 (d79)))))))))
def f8 : List O := ap d80 (ap d81 (ap [l0, l6, l30, l31, l32, l33, l34] (ap d83 (ap d84 (ap d85 (ap d86 (d87)))))))
def ff : List O := ap f0 (ap f1 (ap f2 (ap f3 (ap f4 (ap f5 (ap f6 (ap f7 (f8))))))))
def s2 : O := gd (Z "__name__" 165 (.str "thinwood.errors" 194) :: tk gg 10) 11
def s3 : O := tb (tk tt 2)
def l35 : O := fun P => (.mk (.type "type") none (.cls (.mk "WoodError" [(.type "ValueError")] [(.ref 31), (.type "ValueError"), (.type "Exception"), (.type "BaseException"), (.type "object")] 30 "WoodError" .true [] [] .false none .false)) #[(some (.ref 22)), none, (some (.str "WoodError" 196)), (some (.str "WoodError" 204)), (some (.builtin "ValueError.__new__")), (some (.bool .true))])
def S_tree_70 : Params → PySem.W.BT := fun P => bt 7 (mp (fun x => x P) (ov (tk ff 35) [(3, s2), (8, s3), (18, l35)]))
def s4 : O := gd (Z "__name__" 165 (.str "thinwood.errors" 194) :: tk gg 11) 12
def s5 : O := tb (tk tt 3)
def l36 : O := fun P => (.mk (.type "type") none (.cls (.mk "WoodError" [(.type "ValueError")] [(.ref 31), (.type "ValueError"), (.type "Exception"), (.type "BaseException"), (.type "object")] 30 "WoodError" .true [] [(.ref 44)] .false none .false)) #[(some (.ref 22)), none, (some (.str "WoodError" 196)), (some (.str "WoodError" 204)), (some (.builtin "ValueError.__new__")), (some (.bool .true))])
def S_tree_85 : Params → PySem.W.BT := fun P => bt 7 (mp (fun x => x P) (ov (tk ff 47) [(3, s4), (8, s5), (18, l36)]))
def s6 : O := gd (Z "__name__" 165 (.str "thinwood.errors" 194) :: tk gg 12) 13
def s7 : O := tb (tk tt 4)
def l37 : O := fun P => (.mk (.type "type") none (.cls (.mk "WoodError" [(.type "ValueError")] [(.ref 31), (.type "ValueError"), (.type "Exception"), (.type "BaseException"), (.type "object")] 30 "WoodError" .true [] [(.ref 44), (.ref 56)] .false none .false)) #[(some (.ref 22)), none, (some (.str "WoodError" 196)), (some (.str "WoodError" 204)), (some (.builtin "ValueError.__new__")), (some (.bool .true))])
def S_tree_100 : Params → PySem.W.BT := fun P => bt 7 (mp (fun x => x P) (ov (tk ff 59) [(3, s6), (8, s7), (18, l37)]))
def s8 : O := gd (Z "__name__" 165 (.str "thinwood.errors" 194) :: tk gg 13) 14
def s9 : O := tb (tk tt 5)
def l38 : O := fun P => (.mk (.type "type") none (.cls (.mk "WoodError" [(.type "ValueError")] [(.ref 31), (.type "ValueError"), (.type "Exception"), (.type "BaseException"), (.type "object")] 30 "WoodError" .true [] [(.ref 44), (.ref 56), (.ref 68)] .false none .false)) #[(some (.ref 22)), none, (some (.str "WoodError" 196)), (some (.str "WoodError" 204)), (some (.builtin "ValueError.__new__")), (some (.bool .true))])
def S_tree_115 : Params → PySem.W.BT := fun P => bt 8 (mp (fun x => x P) (ov (tk ff 71) [(3, s8), (8, s9), (18, l38)]))
def s10 : O := gd (Z "__name__" 165 (.str "thinwood.errors" 194) :: tk gg 14) 15
def s11 : O := tb (tk tt 6)
def l39 : O := fun P => (.mk (.type "type") none (.cls (.mk "WoodError" [(.type "ValueError")] [(.ref 31), (.type "ValueError"), (.type "Exception"), (.type "BaseException"), (.type "object")] 30 "WoodError" .true [] [(.ref 44), (.ref 56), (.ref 68), (.ref 80)] .false none .false)) #[(some (.ref 22)), none, (some (.str "WoodError" 196)), (some (.str "WoodError" 204)), (some (.builtin "ValueError.__new__")), (some (.bool .true))])
def S_tree_130 : Params → PySem.W.BT := fun P => bt 8 (mp (fun x => x P) (ov (tk ff 83) [(3, s10), (8, s11), (18, l39)]))
def s12 : O := gd (Z "__name__" 165 (.str "thinwood.errors" 194) :: tk gg 15) 16
def s13 : O := tb (tk tt 7)
def l40 : O := fun P => (.mk (.type "type") none (.cls (.mk "WoodError" [(.type "ValueError")] [(.ref 31), (.type "ValueError"), (.type "Exception"), (.type "BaseException"), (.type "object")] 30 "WoodError" .true [] [(.ref 44), (.ref 56), (.ref 68), (.ref 80), (.ref 92)] .false none .false)) #[(some (.ref 22)), none, (some (.str "WoodError" 196)), (some (.str "WoodError" 204)), (some (.builtin "ValueError.__new__")), (some (.bool .true))])
def S_tree_145 : Params → PySem.W.BT := fun P => bt 8 (mp (fun x => x P) (ov (tk ff 95) [(3, s12), (8, s13), (18, l40)]))
def s14 : O := gd (Z "__name__" 165 (.str "thinwood.errors" 194) :: tk gg 16) 17
def s15 : O := tb (tk tt 8)
def l41 : O := fun P => (.mk (.type "type") none (.cls (.mk "WoodError" [(.type "ValueError")] [(.ref 31), (.type "ValueError"), (.type "Exception"), (.type "BaseException"), (.type "object")] 30 "WoodError" .true [] [(.ref 44), (.ref 56), (.ref 68), (.ref 80), (.ref 92), (.ref 104)] .false none .false)) #[(some (.ref 22)), none, (some (.str "WoodError" 196)), (some (.str "WoodError" 204)), (some (.builtin "ValueError.__new__")), (some (.bool .true))])
def S_tree_160 : Params → PySem.W.BT := fun P => bt 8 (mp (fun x => x P) (ov (tk ff 107) [(3, s14), (8, s15), (18, l41)]))
def s16 : O := gd (Z "__name__" 165 (.str "thinwood.errors" 194) :: tk gg 17) 18
def s17 : O := tb (tk tt 9)
def l42 : O := fun P => (.mk (.type "type") none (.cls (.mk "WoodError" [(.type "ValueError")] [(.ref 31), (.type "ValueError"), (.type "Exception"), (.type "BaseException"), (.type "object")] 30 "WoodError" .true [] [(.ref 44), (.ref 56), (.ref 68), (.ref 80), (.ref 92), (.ref 104), (.ref 116)] .false none .false)) #[(some (.ref 22)), none, (some (.str "WoodError" 196)), (some (.str "WoodError" 204)), (some (.builtin "ValueError.__new__")), (some (.bool .true))])
def S_tree_175 : Params → PySem.W.BT := fun P => bt 8 (mp (fun x => x P) (ov (tk ff 119) [(3, s16), (8, s17), (18, l42)]))
def s18 : O := gd (Z "__name__" 165 (.str "thinwood.errors" 194) :: tk gg 18) 19
def s19 : O := tb (tk tt 10)
def l43 : O := fun P => (.mk (.type "type") none (.cls (.mk "WoodError" [(.type "ValueError")] [(.ref 31), (.type "ValueError"), (.type "Exception"), (.type "BaseException"), (.type "object")] 30 "WoodError" .true [] [(.ref 44), (.ref 56), (.ref 68), (.ref 80), (.ref 92), (.ref 104), (.ref 116), (.ref 128)] .false none .false)) #[(some (.ref 22)), none, (some (.str "WoodError" 196)), (some (.str "WoodError" 204)), (some (.builtin "ValueError.__new__")), (some (.bool .true))])
def S_tree_190 : Params → PySem.W.BT := fun P => bt 9 (mp (fun x => x P) (ov (tk ff 131) [(3, s18), (8, s19), (18, l43)]))
def s20 : O := gd (Z "__name__" 165 (.str "thinwood.blocks" 358) :: tk gg 26) 27
def s21 : O := tb (tk tt 16)
def S_tree_236 : Params → PySem.W.BT := fun P => bt 9 (mp (fun x => x P) (ov (tk ff 174) [(3, s20), (8, s21)]))
def s22 : O := gd (Z "__name__" 165 (.str "thinwood.heaps" 464) :: tk gg 38) 39
def s23 : O := tb (tk tt 27)
def S_tree_315 : Params → PySem.W.BT := fun P => bt 9 (mp (fun x => x P) (ov (tk ff 251) [(3, s22), (8, s23)]))
def s24 : O := gd (Z "__name__" 165 (.str "thinwood.brackets" 630) :: tk gg 49) 50
def s25 : O := tb (tk tt 38)
def S_tree_394 : Params → PySem.W.BT := fun P => bt 10 (mp (fun x => x P) (ov (tk ff 328) [(3, s24), (8, s25)]))
def s26 : O := gd (Z "__name__" 165 (.str "thinwood.brackets" 630) :: tk gg 62) 63
def s27 : O := tb (tk tt 51)
def S_tree_485 : Params → PySem.W.BT := fun P => bt 10 (mp (fun x => x P) (ov (tk ff 417) [(3, s26), (8, s27)]))
def s28 : O := gd (Z "__name__" 165 (.str "thinwood.hands" 845) :: tk gg 72) 73
def s29 : O := tb (tk tt 61)
def S_tree_557 : Params → PySem.W.BT := fun P => bt 10 (mp (fun x => x P) (ov (tk ff 487) [(3, s28), (8, s29)]))
def s30 : O := gd (Z "__name__" 165 (.str "thinwood.hands" 845) :: tk gg 73) 74
def s31 : O := tb (tk tt 62)
def S_tree_664 : Params → PySem.W.BT := fun P => bt 11 (mp (fun x => x P) (ov (tk ff 592) [(3, s30), (8, s31)]))
def S_tree_741 : Params → PySem.W.BT := fun P => bt 11 (mp (fun x => x P) (ff))
def S_heap_742 : Params → Heap := fun P => Heap.mk (Array.mk (mp (fun x => x P) (ff))) (.mk [] [] [] 0 [] [] .false #[] [] 0 .false .false .false 0 [2000, 10, 10] .false 0 .true [] [] 0 .false)
def S_sts_49 : List Stmt := tk (List.drop 0 PySem.Challenge.pw_thinwood_k52_hands_apart.main.body) 3
def S_sts_71 : List Stmt := tk (List.drop 3 PySem.Challenge.pw_thinwood_k52_hands_apart.main.body) 1
def S_sts_86 : List Stmt := tk (List.drop 4 PySem.Challenge.pw_thinwood_k52_hands_apart.main.body) 1
def S_sts_101 : List Stmt := tk (List.drop 5 PySem.Challenge.pw_thinwood_k52_hands_apart.main.body) 1
def S_sts_116 : List Stmt := tk (List.drop 6 PySem.Challenge.pw_thinwood_k52_hands_apart.main.body) 1
def S_sts_131 : List Stmt := tk (List.drop 7 PySem.Challenge.pw_thinwood_k52_hands_apart.main.body) 1
def S_sts_146 : List Stmt := tk (List.drop 8 PySem.Challenge.pw_thinwood_k52_hands_apart.main.body) 1
def S_sts_161 : List Stmt := tk (List.drop 9 PySem.Challenge.pw_thinwood_k52_hands_apart.main.body) 1
def S_sts_176 : List Stmt := tk (List.drop 10 PySem.Challenge.pw_thinwood_k52_hands_apart.main.body) 1
def S_sts_191 : List Stmt := tk (List.drop 11 PySem.Challenge.pw_thinwood_k52_hands_apart.main.body) 9
def S_sts_237 : List Stmt := tk (List.drop 20 PySem.Challenge.pw_thinwood_k52_hands_apart.main.body) 13
def S_sts_316 : List Stmt := tk (List.drop 33 PySem.Challenge.pw_thinwood_k52_hands_apart.main.body) 13
def S_sts_395 : List Stmt := tk (List.drop 46 PySem.Challenge.pw_thinwood_k52_hands_apart.main.body) 13
def S_sts_486 : List Stmt := tk (List.drop 59 PySem.Challenge.pw_thinwood_k52_hands_apart.main.body) 12
def S_sts_558 : List Stmt := tk (List.drop 71 PySem.Challenge.pw_thinwood_k52_hands_apart.main.body) 1
def S_sts_665 : List Stmt := tk (List.drop 72 PySem.Challenge.pw_thinwood_k52_hands_apart.main.body) 14
def S_view : Program := { PySem.Challenge.pw_thinwood_k52_hands_apart with main := { PySem.Challenge.pw_thinwood_k52_hands_apart.main with body := mp Tw.top [0, 2, 3, 4, 5, 6, 7, 8, 9, 10, 11, 13, 14, 15, 16, 17, 18, 19, 20, 21, 22, 23, 24, 25, 27, 28, 29, 30, 31, 32, 33, 34, 35, 37, 38, 39, 40, 41, 42, 43, 44, 46, 47, 48, 49, 50, 51, 52, 53, 54, 55, 56, 57, 58, 59, 60, 61, 62, 63, 64, 66, 67, 68, 69, 71, 73, 74, 75, 76, 78, 79, 80, 81, 82, 83, 84, 85] } }
end
end Tp
theorem PySem.W.Fast.tw14598715356260435866 : True := trivial
lay_quick Tp.g0 Tp.g1 Tp.g2 Tp.g3 Tp.g4 Tp.g5 Tp.g6 Tp.g7 Tp.g8 Tp.gg Tp.s0 Tp.l0 Tp.s1 Tp.l1 Tp.l2 Tp.d1 Tp.l3 Tp.l4 Tp.l5 Tp.l6 Tp.l7 Tp.l8 Tp.l9 Tp.l10 Tp.l11 Tp.l12 Tp.l13 Tp.d3 Tp.d4 Tp.d5 Tp.d6 Tp.d7 Tp.d8 Tp.d9 Tp.d10 Tp.d11 Tp.d12 Tp.d13 Tp.d14 Tp.d15
lay_quick Tp.d16 Tp.d17 Tp.d18 Tp.d19 Tp.d20 Tp.d21 Tp.d22 Tp.d23 Tp.d24 Tp.d25 Tp.d26 Tp.d27 Tp.d28 Tp.d29 Tp.d30 Tp.d31 Tp.d32 Tp.d33 Tp.d34 Tp.d35 Tp.d36 Tp.d37 Tp.d38 Tp.d39 Tp.d40 Tp.d41 Tp.d42 Tp.d43 Tp.d44 Tp.d45 Tp.d46 Tp.l14 Tp.l15 Tp.l16 Tp.l17 Tp.l18 Tp.d48 Tp.d49 Tp.d50 Tp.d51
lay_quick Tp.d52 Tp.d53 Tp.d54 Tp.d55 Tp.d56 Tp.d57 Tp.d58 Tp.d59 Tp.d60 Tp.d61 Tp.l19 Tp.l20 Tp.l21 Tp.l22 Tp.d63 Tp.d64 Tp.d65 Tp.d66 Tp.d67 Tp.d68 Tp.d69 Tp.d70 Tp.d71 Tp.d72 Tp.d73 Tp.d74 Tp.d75 Tp.l23 Tp.l24 Tp.l25 Tp.l26 Tp.l27 Tp.l28 Tp.l29 Tp.d77 Tp.d78 Tp.d79 Tp.d80 Tp.d81 Tp.l30
lay_quick Tp.l31 Tp.l32 Tp.l33 Tp.l34 Tp.d83 Tp.d84 Tp.d85 Tp.d86 Tp.d87 Tp.f0 Tp.f1 Tp.f2 Tp.f3 Tp.f4 Tp.f5 Tp.f6 Tp.f7 Tp.f8 Tp.ff Tp.s2 Tp.s3 Tp.l35 Tp.S_tree_70 Tp.s4 Tp.s5 Tp.l36 Tp.S_tree_85 Tp.s6 Tp.s7 Tp.l37 Tp.S_tree_100 Tp.s8 Tp.s9 Tp.l38 Tp.S_tree_115 Tp.s10 Tp.s11 Tp.l39 Tp.S_tree_130 Tp.s12
lay_quick Tp.s13 Tp.l40 Tp.S_tree_145 Tp.s14 Tp.s15 Tp.l41 Tp.S_tree_160 Tp.s16 Tp.s17 Tp.l42 Tp.S_tree_175 Tp.s18 Tp.s19 Tp.l43 Tp.S_tree_190 Tp.s20 Tp.s21 Tp.S_tree_236 Tp.s22 Tp.s23 Tp.S_tree_315 Tp.s24 Tp.s25 Tp.S_tree_394 Tp.s26 Tp.s27 Tp.S_tree_485 Tp.s28 Tp.s29 Tp.S_tree_557 Tp.s30 Tp.s31 Tp.S_tree_664 Tp.S_tree_741 Tp.S_heap_742 Tp.S_sts_49 Tp.S_sts_71 Tp.S_sts_86 Tp.S_sts_101 Tp.S_sts_116
lay_quick Tp.S_sts_131 Tp.S_sts_146 Tp.S_sts_161 Tp.S_sts_176 Tp.S_sts_191 Tp.S_sts_237 Tp.S_sts_316 Tp.S_sts_395 Tp.S_sts_486 Tp.S_sts_558 Tp.S_sts_665 Tp.S_view
namespace Tp
open PySem PySem.W.Fast
noncomputable abbrev _root_.PySem.W.Fast.tw13422233339473361150 : Params → PySem.W.BT := tw14214130581899219458
theorem _root_.PySem.W.Fast.te13422233339473361150 : S_tree_70 = _root_.PySem.W.Fast.tw13422233339473361150 := te14214130581899219458
noncomputable abbrev _root_.PySem.W.Fast.tw12355801762842240115 : Params → PySem.W.BT := tw1462872556423308429
theorem _root_.PySem.W.Fast.te12355801762842240115 : S_tree_85 = _root_.PySem.W.Fast.tw12355801762842240115 := te1462872556423308429
noncomputable abbrev _root_.PySem.W.Fast.tw4555989969038073264 : Params → PySem.W.BT := tw10336504809818464900
theorem _root_.PySem.W.Fast.te4555989969038073264 : S_tree_100 = _root_.PySem.W.Fast.tw4555989969038073264 := te10336504809818464900
noncomputable abbrev _root_.PySem.W.Fast.tw4729361447855875819 : Params → PySem.W.BT := tw17198967476109506446
theorem _root_.PySem.W.Fast.te4729361447855875819 : S_tree_115 = _root_.PySem.W.Fast.tw4729361447855875819 := te17198967476109506446
noncomputable abbrev _root_.PySem.W.Fast.tw17411212975311968730 : Params → PySem.W.BT := tw11811930008104136036
theorem _root_.PySem.W.Fast.te17411212975311968730 : S_tree_130 = _root_.PySem.W.Fast.tw17411212975311968730 := te11811930008104136036
noncomputable abbrev _root_.PySem.W.Fast.tw4081973135609191711 : Params → PySem.W.BT := tw757010665456945097
theorem _root_.PySem.W.Fast.te4081973135609191711 : S_tree_145 = _root_.PySem.W.Fast.tw4081973135609191711 := te757010665456945097
noncomputable abbrev _root_.PySem.W.Fast.tw681504834599198083 : Params → PySem.W.BT := tw14372755391471488824
theorem _root_.PySem.W.Fast.te681504834599198083 : S_tree_160 = _root_.PySem.W.Fast.tw681504834599198083 := te14372755391471488824
noncomputable abbrev _root_.PySem.W.Fast.tw15906402932158558780 : Params → PySem.W.BT := tw1851596889028425853
theorem _root_.PySem.W.Fast.te15906402932158558780 : S_tree_175 = _root_.PySem.W.Fast.tw15906402932158558780 := te1851596889028425853
noncomputable abbrev _root_.PySem.W.Fast.tw17323324273272427414 : Params → PySem.W.BT := tw2544573276053326270
theorem _root_.PySem.W.Fast.te17323324273272427414 : S_tree_190 = _root_.PySem.W.Fast.tw17323324273272427414 := te2544573276053326270
noncomputable abbrev _root_.PySem.W.Fast.tw9278861685229509884 : Params → PySem.W.BT := tw18351504776360049774
theorem _root_.PySem.W.Fast.te9278861685229509884 : S_tree_236 = _root_.PySem.W.Fast.tw9278861685229509884 := te18351504776360049774
noncomputable abbrev _root_.PySem.W.Fast.tw9450002668868618059 : Params → PySem.W.BT := tw11330177930656358862
theorem _root_.PySem.W.Fast.te9450002668868618059 : S_tree_315 = _root_.PySem.W.Fast.tw9450002668868618059 := te11330177930656358862
noncomputable abbrev _root_.PySem.W.Fast.tw16236923971880814405 : Params → PySem.W.BT := tw11287833425829762994
theorem _root_.PySem.W.Fast.te16236923971880814405 : S_tree_394 = _root_.PySem.W.Fast.tw16236923971880814405 := te11287833425829762994
noncomputable abbrev _root_.PySem.W.Fast.tw14179642030389659580 : Params → PySem.W.BT := tw17155694495660501535
theorem _root_.PySem.W.Fast.te14179642030389659580 : S_tree_485 = _root_.PySem.W.Fast.tw14179642030389659580 := te17155694495660501535
noncomputable abbrev _root_.PySem.W.Fast.tw1758315492443185277 : Params → PySem.W.BT := tw8143402871967868498
theorem _root_.PySem.W.Fast.te1758315492443185277 : S_tree_557 = _root_.PySem.W.Fast.tw1758315492443185277 := te8143402871967868498
noncomputable abbrev _root_.PySem.W.Fast.tw13381400251765235337 : Params → PySem.W.BT := tw1971787971230066237
theorem _root_.PySem.W.Fast.te13381400251765235337 : S_tree_664 = _root_.PySem.W.Fast.tw13381400251765235337 := te1971787971230066237
noncomputable abbrev _root_.PySem.W.Fast.tw18089590720605231129 : Params → PySem.W.BT := tw13176574630066745204
theorem _root_.PySem.W.Fast.te18089590720605231129 : S_tree_741 = _root_.PySem.W.Fast.tw18089590720605231129 := te13176574630066745204
noncomputable abbrev _root_.PySem.W.Fast.tw3804569325366342799 : Params → Heap := tw10306197855906730942
theorem _root_.PySem.W.Fast.te3804569325366342799 : S_heap_742 = _root_.PySem.W.Fast.tw3804569325366342799 := te10306197855906730942
noncomputable abbrev _root_.PySem.W.Fast.tw13647940246670157107 : List Stmt := tw666750322614274432
theorem _root_.PySem.W.Fast.te13647940246670157107 : S_sts_49 = _root_.PySem.W.Fast.tw13647940246670157107 := te666750322614274432
noncomputable abbrev _root_.PySem.W.Fast.tw15995023855682384427 : List Stmt := tw2773697916358693943
theorem _root_.PySem.W.Fast.te15995023855682384427 : S_sts_71 = _root_.PySem.W.Fast.tw15995023855682384427 := te2773697916358693943
noncomputable abbrev _root_.PySem.W.Fast.tw570545289856266510 : List Stmt := tw14279870534025624394
theorem _root_.PySem.W.Fast.te570545289856266510 : S_sts_86 = _root_.PySem.W.Fast.tw570545289856266510 := te14279870534025624394
noncomputable abbrev _root_.PySem.W.Fast.tw14489627083602727479 : List Stmt := tw3151006196638662265
theorem _root_.PySem.W.Fast.te14489627083602727479 : S_sts_101 = _root_.PySem.W.Fast.tw14489627083602727479 := te3151006196638662265
noncomputable abbrev _root_.PySem.W.Fast.tw8530697688544491873 : List Stmt := tw2585414788117322289
theorem _root_.PySem.W.Fast.te8530697688544491873 : S_sts_116 = _root_.PySem.W.Fast.tw8530697688544491873 := te2585414788117322289
noncomputable abbrev _root_.PySem.W.Fast.tw10971309253441243290 : List Stmt := tw13329466766121000731
theorem _root_.PySem.W.Fast.te10971309253441243290 : S_sts_131 = _root_.PySem.W.Fast.tw10971309253441243290 := te13329466766121000731
noncomputable abbrev _root_.PySem.W.Fast.tw1864763980272900982 : List Stmt := tw722096626299277829
theorem _root_.PySem.W.Fast.te1864763980272900982 : S_sts_146 = _root_.PySem.W.Fast.tw1864763980272900982 := te722096626299277829
noncomputable abbrev _root_.PySem.W.Fast.tw34709643269622783 : List Stmt := tw8059986288740205640
theorem _root_.PySem.W.Fast.te34709643269622783 : S_sts_161 = _root_.PySem.W.Fast.tw34709643269622783 := te8059986288740205640
noncomputable abbrev _root_.PySem.W.Fast.tw7673231876152456249 : List Stmt := tw1587927546265145006
theorem _root_.PySem.W.Fast.te7673231876152456249 : S_sts_176 = _root_.PySem.W.Fast.tw7673231876152456249 := te1587927546265145006
noncomputable abbrev _root_.PySem.W.Fast.tw10278136452547930719 : List Stmt := tw5994931792491741038
theorem _root_.PySem.W.Fast.te10278136452547930719 : S_sts_191 = _root_.PySem.W.Fast.tw10278136452547930719 := te5994931792491741038
noncomputable abbrev _root_.PySem.W.Fast.tw6741866913518094986 : List Stmt := tw5805482708317582043
theorem _root_.PySem.W.Fast.te6741866913518094986 : S_sts_237 = _root_.PySem.W.Fast.tw6741866913518094986 := te5805482708317582043
noncomputable abbrev _root_.PySem.W.Fast.tw11282242801051830505 : List Stmt := tw15164809180792259894
theorem _root_.PySem.W.Fast.te11282242801051830505 : S_sts_316 = _root_.PySem.W.Fast.tw11282242801051830505 := te15164809180792259894
noncomputable abbrev _root_.PySem.W.Fast.tw14116689504612442880 : List Stmt := tw989199570918703350
theorem _root_.PySem.W.Fast.te14116689504612442880 : S_sts_395 = _root_.PySem.W.Fast.tw14116689504612442880 := te989199570918703350
noncomputable abbrev _root_.PySem.W.Fast.tw2759763398765847800 : List Stmt := tw5304846816136418815
theorem _root_.PySem.W.Fast.te2759763398765847800 : S_sts_486 = _root_.PySem.W.Fast.tw2759763398765847800 := te5304846816136418815
noncomputable abbrev _root_.PySem.W.Fast.tw10136497824957331451 : List Stmt := tw710111419737094630
theorem _root_.PySem.W.Fast.te10136497824957331451 : S_sts_558 = _root_.PySem.W.Fast.tw10136497824957331451 := te710111419737094630
noncomputable abbrev _root_.PySem.W.Fast.tw6483115741523173109 : List Stmt := tw16958396089475292169
theorem _root_.PySem.W.Fast.te6483115741523173109 : S_sts_665 = _root_.PySem.W.Fast.tw6483115741523173109 := te16958396089475292169
noncomputable abbrev _root_.PySem.W.Fast.tw108784993555732367 : Program := tw11325136443342628617
theorem _root_.PySem.W.Fast.te108784993555732367 : S_view = _root_.PySem.W.Fast.tw108784993555732367 := te11325136443342628617
theorem _root_.PySem.W.Fast.te4829476633661979722 : True := trivial
end Tp
open PySem PySem.W PyProof.Rows
set_option maxRecDepth 100000 in
set_option maxHeartbeats 0 in
theorem PySem.Challenge.cw_thinwood_k52_hands_apart_holds : PySem.Challenge.rw_thinwood_k52_hands_apart.Holds := by
 w_on; o_law; k_head; (case hw => w_witness2)
 k_fill
 refine L2.zy (l := PySem.Challenge.rw_thinwood_k52_hands_apart) (n := 63) (k := 14) (x := "_law_script") rfl (by decide) rfl ⟨rfl, by decide, by decide⟩ (fun w h Y => PySem.W.km_in_of Y) ?F
 case F =>
  intro w mg mb mean fa h KX TT hmg
  refine' Tw.Du KX TT hmg ?d0 ?d1 ?d2 ?d3 ?d4 ?d5 ?d6 ?d7 ?d8 ?d9 ?d10 ?d11 ?d12 ?d13 ?d14 ?d15 ?d16 ?d17 ?d18 ?d19 ?d20 ?d21 ?d22 ?d23 ?d24 ?d25 ?d26 ?d27 ?d28 ?d29 ?d30 ?d31 ?d32 ?d33 ?d34 ?d35 ?a36 ?l36 ?c36 ?k36 ?tl_heap_look ?tp_heap_look ?tr_heap_look ?d37 ?d38 ?d39 ?d40 ?d41 ?d42 ?d43 ?d44 ?d45 ?d46 ?d47 ?d48 ?d49 ?d50 ?dm51 ?dm52 ?dm53 ?dm54 ?dm55 ?dm56 ?dm57 ?dm58 ?d59 ?d60 ?d61 ?d62 ?d63 ?a64 ?l64 ?c64 ?k64 ?tl_law_look ?tp_law_look ?tr_law_look ?d65 ?d66 ?d67 ?d68 ?d69 ?z_ValueError ?z_bool ?z_enumerate ?z_int ?z_isinstance ?z_len ?z_list ?z_max ?z_min ?z_range ?z_reversed ?z_sum ?z_tuple ?z_zip ?g_BLOCK_BITS ?g_MOST_BITS ?g_MOST_NODES ?g_MOST_NUMBERS ?q_Hand ?q_NoBit ?q_NoNode ?q_NoOctets ?q_NoPlace ?q_NoSign ?q_NoTree ?q_NoWord ?q_TooMany ?q_Twice ?q_WoodError ?ex_NoNode ?ed_NoNode ?ega_NoNode ?eng_NoNode ?ecl_NoNode ?egt_NoNode ?etk_NoNode ?emo_NoNode ?emb_NoNode ?i_NoNode_Hand ?i_NoNode_NoBit ?i_NoNode_NoNode ?i_NoNode_NoOctets ?i_NoNode_NoPlace ?i_NoNode_NoSign ?i_NoNode_NoTree ?i_NoNode_NoWord ?i_NoNode_TooMany ?i_NoNode_Twice ?i_NoNode_WoodError ?i_NoNode_ValueError ?cl_Hand ?na_Hand_look ?na_Hand_place ?na_Hand_tables ?mt_Hand_is_opening ?mt_Hand_node ?mt_Hand_step ?mt_Hand_step_back ?mt_Hand_to_node ?mt_Hand_told ?mt_Hand_turn ?mk_Hand ?nt ?nn_heap_look_law_look
  (case d0 | d1 | d2 | d3 | d4 | d5 | d6 | d7 | d8 | d9 | d10 | d11 | d12 | d13 | d14 | d15 | d16 | d17 | d18 | d19 | d20 | d21 | d22 | d23 | d24 | d25 | d26 | d27 | d28 | d29 | d30 | d31 | d32 | d33 | d34 | d35 | d37 | d38 | d39 | d40 | d41 | d42 | d43 | d44 | d45 | d46 | d47 | d48 | d49 | d50 | d59 | d60 | d61 | d62 | d63 | d65 | d66 | d67 | d68 | d69 => exact ⟨by k_is, L2.tZ (by k_is) (by k_is) (by k_is)⟩); (case q_Hand => k_is); (case q_NoBit => k_is); (case q_NoNode => k_is); (case q_NoOctets => k_is); (case q_NoPlace => k_is); (case q_NoSign => k_is); (case q_NoTree => k_is); (case q_NoWord => k_is); (case q_TooMany => k_is); (case q_Twice => k_is); (case q_WoodError => k_is); (case mk_Hand => exact ⟨by k_is, by k_is, by k_is, by k_is⟩); (case mt_Hand_is_opening | mt_Hand_node | mt_Hand_step | mt_Hand_step_back | mt_Hand_to_node | mt_Hand_told | mt_Hand_turn => exact ⟨by k_is, by k_is, by k_is⟩); (case dm51 | dm52 | dm53 | dm54 | dm55 | dm56 | dm57 | dm58 => exact L2.tZ (by k_is) (by k_is) (by k_is)); (case cl_Hand => exact ⟨by k_is, by k_is, by k_is, by k_is⟩); (case a36 => k_is); (case l36 => k_is); (case c36 => k_is); (case k36 => k_is); (case tl_heap_look => k_is); (case tp_heap_look => rfl); (case tr_heap_look => exact ⟨_, rfl⟩); (case a64 => k_is); (case l64 => k_is); (case c64 => k_is); (case k64 => k_is); (case tl_law_look => k_is); (case tp_law_look => rfl); (case tr_law_look => exact ⟨_, rfl⟩); (case z_ValueError => k_is); (case z_bool => k_is); (case z_enumerate => k_is); (case z_int => k_is); (case z_isinstance => k_is); (case z_len => k_is); (case z_list => k_is); (case z_max => k_is); (case z_min => k_is); (case z_range => k_is); (case z_reversed => k_is); (case z_sum => k_is); (case z_tuple => k_is); (case z_zip => k_is); (case g_BLOCK_BITS => k_is); (case g_MOST_BITS => k_is); (case g_MOST_NODES => k_is); (case g_MOST_NUMBERS => k_is); (case ex_NoNode => k_exc); (case ed_NoNode => k_is); (case ega_NoNode => k_is); (case eng_NoNode => k_is); (case ecl_NoNode => k_is); (case egt_NoNode => k_is); (case etk_NoNode => k_is); (case emo_NoNode => k_is); (case emb_NoNode => k_is); (case i_NoNode_Hand => kit_is); (case i_NoNode_NoBit => kit_is); (case i_NoNode_NoNode => kit_is); (case i_NoNode_NoOctets => kit_is); (case i_NoNode_NoPlace => kit_is); (case i_NoNode_NoSign => kit_is); (case i_NoNode_NoTree => kit_is); (case i_NoNode_NoWord => kit_is); (case i_NoNode_TooMany => kit_is); (case i_NoNode_Twice => kit_is); (case i_NoNode_WoodError => kit_is); (case i_NoNode_ValueError => kit_is); (case na_Hand_look => k_is); (case na_Hand_place => k_is); (case na_Hand_tables => k_is); (case nt => kernel_rfl); (case nn_heap_look_law_look => decide)
