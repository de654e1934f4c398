import PyProof.Rows.All
import Wide.All
import OpenK.AllK
import Wide.FinOn
import Lean
import PyProof.EqAt
import PyProof.EqKinds
import PyProof.TupleCall
import PySem.Challenge.RW_thinwood_k49_whole_tree_asked
set_option Elab.async false
set_option linter.all false
set_option maxRecDepth 100000
namespace L2
open PySem PySem.Spec PyProof.Rows
abbrev Key := Sum Int Str
def tM : Key → Value → Bool
 | .inl k, v => Value.isInt k v
 | .inr x, v => Value.isStrOf x v
def Hd (w : World) : Key → Int
 | .inl k => hashInt k
 | .inr x => hashStr w x
theorem cj : ∀ {k : Key} {v : Value}, tM k v = true → (∃ i t, k = Sum.inl i ∧ v = Value.int i t) ∨ (∃ x t, k = Sum.inr x ∧ v = Value.str x t)
 | .inl i, v, h => by
  obtain ⟨t, e⟩ := Value.isInt_shape (k := i) (v := v) h
  exact .inl ⟨i, t, rfl, e⟩
 | .inr x, v, h => by
  obtain ⟨t, e⟩ := Value.isStrOf_shape (x := x) (v := v) h
  exact .inr ⟨x, t, rfl, e⟩
theorem Ax (i : Int) (t : Tok) : tM (.inl i) (.int i t) = true := by simp [tM, Value.isInt]
theorem Aw (x : Str) (t : Tok) : tM (.inr x) (.str x t) = true := by simp [tM, Value.isStrOf]
theorem Fo (a b : Int) : decide ((Sum.inl a : Key) = Sum.inl b) = (a == b) := by
 by_cases e : a = b
 ·subst e; simp
 ·have h : ¬ (Sum.inl a : Key) = Sum.inl b := fun q => e (Sum.inl.inj q)
  rw [decide_eq_false h]
  exact (beq_eq_false_iff_ne.mpr e).symm
theorem Fx (a b : Str) : decide ((Sum.inr a : Key) = Sum.inr b) = decide (a = b) := by
 by_cases e : a = b
 ·subst e; simp
 ·have h : ¬ (Sum.inr a : Key) = Sum.inr b := fun q => e (Sum.inr.inj q)
  rw [decide_eq_false h, decide_eq_false e]
theorem FP (a : Int) (b : Str) : decide ((Sum.inl a : Key) = Sum.inr b) = false := decide_eq_false (fun q => nomatch q)
theorem Fz (a : Str) (b : Int) : decide ((Sum.inr a : Key) = Sum.inl b) = false := decide_eq_false (fun q => nomatch q)
def cL (prog : Program) (w : World) : PySem.KeyKind prog w Key where
 is := tM
 hash := Hd w
 inj := fun v a b ha hb => by
  rcases cj ha with ⟨i, t, rfl, rfl⟩ | ⟨x, t, rfl, rfl⟩
  ·rcases cj hb with ⟨j, u, rfl, e⟩ | ⟨y, u, rfl, e⟩
   ·injection e with e1 _; rw [e1]
   ·exact nomatch e
  ·rcases cj hb with ⟨j, u, rfl, e⟩ | ⟨y, u, rfl, e⟩
   ·exact nomatch e
   ·injection e with e1 _; rw [e1]
 byValue := fun k v h => by
  rcases cj h with ⟨i, t, rfl, rfl⟩ | ⟨x, t, rfl, rfl⟩ <;> rfl
 pyHash := fun hv h => by
  rcases cj hv with ⟨i, t, rfl, rfl⟩ | ⟨x, t, rfl, rfl⟩
  ·exact wpAny_pyHash_int h
  ·exact wpAny_pyHash_str h
 eqBool := fun hu hv h => by
  rcases cj hu with ⟨i, t, rfl, rfl⟩ | ⟨x, t, rfl, rfl⟩
  ·rcases cj hv with ⟨j, u, rfl, rfl⟩ | ⟨y, u, rfl, rfl⟩
   ·rw [Fo] at h; exact wpAny_eqBool_int h
   ·rw [FP] at h; exact SeqAt.EqAt.int_str i t y u _ _ _ _ h
  ·rcases cj hv with ⟨j, u, rfl, rfl⟩ | ⟨y, u, rfl, rfl⟩
   ·rw [Fz] at h; exact SeqAt.EqAt.str_int x t j u _ _ _ _ h
   ·rw [Fx] at h; exact wpAny_eqBool_str h
 «strs» := fun k x t v h => by
  rcases cj h with ⟨i, u, rfl, e⟩ | ⟨y, u, rfl, e⟩
  ·exact nomatch e
  ·injection e with e1 _
   subst e1
   cases v <;> rfl
theorem vW (prog : Program) (w : World) (i : Int) (t : Tok) : (cL prog w).is (.inl i) (.int i t) = true := Ax i t
theorem vg (prog : Program) (w : World) (x : Str) (t : Tok) : (cL prog w).is (.inr x) (.str x t) = true := Aw x t
end L2
namespace L2
open PySem PySem.Spec PyProof.Rows
inductive V where
 | non | bl (b : Bool) | int (i : Int) | str (x : Str) | byt (b : Array UInt8) | flt (b : UInt64) | ref (a : Addr) | ty (n : String)
 deriving DecidableEq
def RelV : V → Value → Prop
 | .non, u => u = Value.none
 | .bl b, u => u = Value.bool b
 | .int i, u => ∃ t, u = Value.int i t
 | .str x, u => ∃ t, u = Value.str x t
 | .byt b, u => ∃ t, u = Value.bytes b t
 | .flt b, u => ∃ t, u = Value.float b t
 | .ref a, u => u = Value.ref a
 | .ty n, u => u = Value.type n
abbrev Vals : List V → List Value → Prop := Paired RelV
theorem Vals.length {xs : List V} {us : List Value} (r : Vals xs us) : xs.length = us.length := Paired.length r
theorem Vals.get : ∀ {xs : List V} {us : List Value} {i : Nat} {x : V}, Vals xs us → xs[i]? = some x → ∃ u, us[i]? = some u ∧ RelV x u
 | _, _, _, _, .nil, e => by simp at e
 | _, _, 0, _, .cons r _, e => by simp at e; subst e; exact ⟨_, rfl, r⟩
 | _, _, i + 1, x, .cons _ t, e => by
  obtain ⟨u, h1, h2⟩ := Vals.get (i := i) (x := x) t (by simpa using e)
  exact ⟨u, by simpa using h1, h2⟩
theorem Vals.set {x : V} {u : Value} (r : RelV x u) : ∀ {xs : List V} {us : List Value} (i : Nat), Vals xs us → Vals (xs.set i x) (us.set i u)
 | _, _, _, .nil => .nil
 | _, _, 0, .cons _ t => .cons r t
 | _, _, i + 1, .cons q t => .cons q (Vals.set r i t)
theorem Vals.append : ∀ {xs ys : List V} {us ws : List Value}, Vals xs us → Vals ys ws → Vals (xs ++ ys) (us ++ ws)
 | _, _, _, _, .nil, s => s
 | _, _, _, _, .cons r t, s => .cons r (Vals.append t s)
theorem Vals.take : ∀ {xs : List V} {us : List Value} (n : Nat), Vals xs us → Vals (xs.take n) (us.take n)
 | _, _, 0, _ => .nil
 | _, _, _ + 1, .nil => .nil
 | _, _, n + 1, .cons r t => .cons r (Vals.take n t)
theorem Vals.drop : ∀ {xs : List V} {us : List Value} (n : Nat), Vals xs us → Vals (xs.drop n) (us.drop n)
 | _, _, 0, r => r
 | _, _, _ + 1, .nil => .nil
 | _, _, n + 1, .cons _ t => Vals.drop n t
def qb : Option V → Option Value → Prop
 | some v, some u => RelV v u
 | none, none => True
 | _, _ => False
def KV {κ : Type} : List (κ × V) → List (κ × Value) → Prop := Paired fun (p : κ × V) (q : κ × Value) => p.1 = q.1 ∧ RelV p.2 q.2
def kV : Key → V
 | .inl i => .int i
 | .inr x => .str x
inductive HO where
  | lst (xs : List V)
  | tup (xs : List V)
  | dK (kvs : List (Key × V)) | dT (kvs : List (List Key × V))
  | set (S : Int → Bool) (n : Nat)
  | ins (C dx : Addr) (fs : List (Str × V))
  | own (x : Addr)
  | xd (fs : List (Str × V))
  | met (f x : Addr)
  | rng (lo hi : Int)
  | frz (o : Obj) (u : HO)
  | tbl (ps : Array Value)
  | ext (φ : Heap → Prop)
abbrev Hp := Addr → Option HO
def upd (H : Hp) (a : Addr) (o : HO) : Hp := fun b => if b = a then some o else H b
theorem au {H : Hp} {a : Addr} {o : HO} : upd H a o a = some o := by unfold upd; rw [if_pos rfl]
theorem aH {H : Hp} {a b : Addr} {o : HO} (h : b ≠ a) : upd H a o b = H b := by unfold upd; rw [if_neg h]
theorem yQ {H : Hp} {a : Addr} {o u : HO} : upd (upd H a o) a u = upd H a u := by
 funext b; unfold upd; split <;> rfl
theorem Gz {H : Hp} {a b : Addr} {o u : HO} (h : H a = some o) (h' : H b = some u) (d : o ≠ u) : a ≠ b := by
 intro e; subst e; rw [h] at h'; exact d (Option.some.inj h')
theorem aJ {H : Hp} {a b : Addr} {o : HO} (h : H a = some o) (h' : H b = none) : a ≠ b := by
 intro e; subst e; rw [h] at h'; cases h'
section
variable (P : Program) (w : World)
def bN (H : Hp) (h : Heap) (a : Addr) : HO → Prop
 | .lst xs => xs.length ≤ sizeLine ∧ ∃ (its : List Value) (n : Nat), Vals xs its ∧ h.get? a = some { cls := .type "list", data := .seq its.toArray n }
 | .tup xs => xs.length ≤ sizeLine ∧ ∃ its : List Value, Vals xs its ∧ IsTup h a its.toArray
 | .dK kvs => kvs.length ≤ sizeLine ∧ (a == sysModules) = false ∧ ∃ vs, KV kvs vs ∧ h.DictOf (cL P w) a vs
 | .dT kvs => kvs.length ≤ sizeLine ∧ (a == sysModules) = false ∧ ∃ xs : List (List Key × Addr × Value),
   Paired (fun (p : List Key × V) (q : List Key × Addr × Value) => p.1 = q.1 ∧ H q.2.1 = some (.tup (p.1.map kV)) ∧ RelV p.2 q.2.2) kvs xs ∧
   ∃ o es ep, h.get? a = some o ∧ o.ExactDict ∧ o.data = .dict es ep ∧ es.toList = xs.map (entryOfKey (tupleKind (cL P w))) ∧ (xs.map (·.1)).Nodup
 | .set S n => h.SetOf (intKind P w) a S n
 | .ins C dx fs => H dx = some (.own a) ∧ fs.length ≤ 1000 ∧ dx ≠ a ∧ h.get? a = some (PySem.W.instObj C dx) ∧
   ∃ mA, h.Ns1 dx mA ∧ (∀ f, qb (fs.lookup f) (mA f)) ∧ PySem.Within mA (fs.map (·.1))
 | .own _ => ∃ o, h.get? a = some o
 | .xd fs => ∃ mA, h.Ns1 a mA ∧ ∀ f, qb (fs.lookup f) (mA f)
 | .rng lo hi => ∃ t u v, h.get? a = some { cls := .type "range", data := .fields #[.int lo t, .int hi u, .int 1 v] }
 | .frz o u => h.get? a = some o ∧ bN H h a u
 | .tbl ps => h.get? a = some { cls := .none, data := .fields ps }
 | .met f x => h.get? a = some (PySem.W.methodObj (.ref f) (.ref x))
 | .ext φ => φ h ∧ (∃ o, h.get? a = some o) ∧ ∀ h1 h2 : Heap, φ h1 → (∀ o, h1.get? a = some o → h2.get? a = some o) → φ h2
def HOk (H : Hp) (h : Heap) : Prop := ∀ a o, H a = some o → bN P w H h a o
end
section
variable {P : Program} {w : World} {H H' : Hp} {h h' : Heap} {a : Addr} {o : HO}
theorem bN.lt (x : bN P w H h a o) : a < h.objs.size := by
 cases o with
 | lst xs => obtain ⟨_, _, _, _, e⟩ := x; exact Heap.lt_size e
 | tup xs => obtain ⟨_, _, _, p⟩ := x; exact p.lt
 | dK kvs => obtain ⟨_, _, _, _, o, _, _, e, _⟩ := x; exact Heap.lt_size e
 | dT kvs => obtain ⟨_, _, _, _, o, _, _, e, _⟩ := x; exact Heap.lt_size e
 | set S n => obtain ⟨o, _, _, _, e, _⟩ := x; exact Heap.lt_size e
 | ins C dx fs => obtain ⟨_, _, _, e, _⟩ := x; exact Heap.lt_size e
 | own y => obtain ⟨_, e⟩ := x; exact Heap.lt_size e
 | xd fs => obtain ⟨_, ⟨_, _, _, e, _⟩, _⟩ := x; exact Heap.lt_size e
 | rng lo hi => obtain ⟨_, _, _, e⟩ := x; exact Heap.lt_size e
 | frz ob u => obtain ⟨e, _⟩ := x; exact Heap.lt_size e
 | tbl ps => exact Heap.lt_size (show h.get? a = some _ from x)
 | met f y => exact Heap.lt_size (show h.get? a = some _ from x)
 | ext φ => obtain ⟨_, ⟨_, e⟩, _⟩ := x; exact Heap.lt_size e
theorem Paired.mapP {α β : Type} {F G : α → β → Prop} : ∀ {l₁ : List α} {l₂ : List β}, Paired F l₁ l₂ → (∀ a b, F a b → G a b) → Paired G l₁ l₂
 | _, _, .nil, _ => .nil
 | _, _, .cons r t, f => .cons (f _ _ r) (Paired.mapP t f)
theorem bN.stay (x : bN P w H h a o) (k : ∀ b u, (b = a ∨ H b = some (.own a)) → h.get? b = some u → h'.get? b = some u)
  (ho : ∀ b, H b = some (.own a) → H' b = some (.own a)) (ht : ∀ b xs, H b = some (.tup xs) → H' b = some (.tup xs)) : bN P w H' h' a o := by
 induction o with
 | lst xs => obtain ⟨z, its, n, r, e⟩ := x; exact ⟨z, its, n, r, k _ _ (.inl rfl) e⟩
 | tup xs => obtain ⟨z, its, r, ob, e, c⟩ := x; exact ⟨z, its, r, ob, k _ _ (.inl rfl) e, c⟩
 | dK kvs => obtain ⟨z, y, vs, r, ob, es, ep, e, c⟩ := x; exact ⟨z, y, vs, r, ob, es, ep, k _ _ (.inl rfl) e, c⟩
 | dT kvs =>
  obtain ⟨z, y, xs, r, ob, es, ep, e, c⟩ := x
  exact ⟨z, y, xs, Paired.mapP r fun p q z => ⟨z.1, ht _ _ z.2.1, z.2.2⟩, ob, es, ep, k _ _ (.inl rfl) e, c⟩
 | set S n => obtain ⟨ob, es, ep, t, e, c⟩ := x; exact ⟨ob, es, ep, t, k _ _ (.inl rfl) e, c⟩
 | ins C dx fs =>
  obtain ⟨d, z, ne, e, mA, ⟨od, es, ep, e2, c⟩, r⟩ := x
  exact ⟨ho _ d, z, ne, k _ _ (.inl rfl) e, mA, ⟨od, es, ep, k _ _ (.inr d) e2, c⟩, r⟩
 | own y => obtain ⟨ob, e⟩ := x; exact ⟨ob, k _ _ (.inl rfl) e⟩
 | xd fs => obtain ⟨mA, ⟨od, es, ep, e, c⟩, r⟩ := x; exact ⟨mA, ⟨od, es, ep, k _ _ (.inl rfl) e, c⟩, r⟩
 | rng lo hi => obtain ⟨t, u, v, e⟩ := x; exact ⟨t, u, v, k _ _ (.inl rfl) e⟩
 | frz ob u ih => obtain ⟨e, q⟩ := x; exact ⟨k _ _ (.inl rfl) e, ih q⟩
 | tbl ps =>
  have e : h.get? a = some { cls := .none, data := .fields ps } := x
  show h'.get? a = some { cls := .none, data := .fields ps }
  exact k a _ (.inl rfl) e
 | met f y =>
  have e : h.get? a = some (PySem.W.methodObj (.ref f) (.ref y)) := x
  show h'.get? a = some (PySem.W.methodObj (.ref f) (.ref y))
  exact k a _ (.inl rfl) e
 | ext φ => obtain ⟨p, ⟨o, e⟩, st⟩ := x; exact ⟨st _ _ p fun o q => k _ _ (.inl rfl) q, ⟨o, k _ _ (.inl rfl) e⟩, st⟩
theorem HOk.lt (x : HOk P w H h) (e : H a = some o) : a < h.objs.size := (x a o e).lt
theorem HOk.fresh (x : HOk P w H h) (e : h.objs.size ≤ a) : H a = none := by
 cases q : H a with
 | none => rfl
 | some u => exact absurd (Nat.lt_of_lt_of_le (x.lt q) e) (Nat.lt_irrefl _)
theorem HOk.kept (x : HOk P w H h) (k : ∀ b u, h.get? b = some u → h'.get? b = some u) : HOk P w H h' := fun a o e =>
 (x a o e).stay (fun b u _ q => k b u q) (fun _ q => q) fun _ _ q => q
theorem HOk.laid (x : HOk P w H h) (k : ∀ b u, h.get? b = some u → h'.get? b = some u) (hp : h.objs.size ≤ a) (new : bN P w (upd H a o) h' a o) : HOk P w (upd H a o) h' := fun b u e => by
 have hn := x.fresh hp
 by_cases hb : b = a
 ·subst hb; rw [au] at e; cases e; exact new
 ·rw [aH hb] at e
  exact (x b u e).stay (fun c v _ q => k c v q) (fun c q => by rw [aH (aJ q hn)]; exact q) fun c xs q => by rw [aH (aJ q hn)]; exact q
end
def Rd (H : Hp) (a : Addr) (u : HO) : Prop := H a = some u ∨ ∃ o, H a = some (.frz o u)
theorem Rd.ok {P : Program} {w : World} {H : Hp} {h : Heap} {a : Addr} {u : HO} (r : Rd H a u) (x : HOk P w H h) : bN P w H h a u := by
 rcases r with r | ⟨o, r⟩
 ·exact x a u r
 ·obtain ⟨_, q⟩ := x a _ r
  exact q
def Mut : Option HO → Prop
 | some (.lst _) => True
 | some (.dK _) => True
 | some (.dT _) => True
 | some (.set _ _) => True
 | some (.ins _ _ _) => True
 | some (.ext _) => True
 | _ => False
section
variable {P : Program} {w : World} {H : Hp} {h h' : Heap} {x e : Addr} {o' : HO}
theorem HOk.write (ok : HOk P w H h) (mu : Mut (H x)) (he : e = x ∨ H e = some (.own x)) (k : ∀ b u, b ≠ e → h.get? b = some u → h'.get? b = some u) (heo : ∃ u, h'.get? e = some u)
  (new : bN P w (upd H x o') h' x o') : HOk P w (upd H x o') h' := fun b u q => by
 have nown : ∀ c y, H c = some (.own y) → c ≠ x := fun c y r z => by subst z; rw [r] at mu; exact mu
 have ntup : ∀ c xs, H c = some (.tup xs) → c ≠ x := fun c xs r z => by subst z; rw [r] at mu; exact mu
 by_cases hb : b = x
 ·subst hb; rw [au] at q; cases q; exact new
 ·rw [aH hb] at q
  by_cases hbe : b = e
  ·have q' : H b = some (.own x) := by
    rcases he with z | z
    ·exact absurd (hbe.trans z) hb
    ·rw [hbe]; exact z
   rw [q] at q'; cases q'
   obtain ⟨v, hv⟩ := heo
   exact ⟨v, by rw [hbe]; exact hv⟩
  ·refine (ok b u q).stay (fun c v hc r => k c v ?_ r) (fun c r => by rw [aH (nown c b r)]; exact r) fun c xs r => by rw [aH (ntup c xs r)]; exact r
   rcases hc with rfl | hc
   ·exact hbe
   ·rintro rfl
    rcases he with z | z
    ·exact nown c b hc z
    ·rw [hc] at z; cases z; exact hb rfl
end
structure Un (fs ex : List Addr) (H H' : Hp) (h h' : Heap) : Prop where
 keep : ∀ b o, h.get? b = some o → H b = none → b ∉ fs → b ∉ ex → h'.get? b = some o
 slot : ∀ b o, h.get? b = some o → H b = none → b ∈ fs → b ∉ ex → ∃ sl, h'.get? b = some { o with slots := sl }
 free : ∀ b o, h.get? b = some o → H b = none → b ∉ ex → H' b = none
 there : ∀ b o, h.get? b = some o → b ∉ ex → ∃ o', h'.get? b = some o'
 tups : ∀ b xs, H b = some (.tup xs) → H' b = some (.tup xs)
 frzs : ∀ b o u, H b = some (.frz o u) → H' b = some (.frz o u)
 tbls : ∀ b ps, H b = some (.tbl ps) → ∃ more, H' b = some (.tbl (ps ++ more))
section
variable {fs fs' ex ex' : List Addr} {H H1 H2 : Hp} {h h1 h2 h' : Heap} {a x e : Addr} {o : HO}
theorem Un.any (u : Un fs ex H H1 h h1) {b : Addr} {ob : Obj} (q : h.get? b = some ob) (n : H b = none) (hx : b ∉ ex) : ∃ sl, h1.get? b = some { ob with slots := sl } := by
 by_cases hb : b ∈ fs
 ·exact u.slot b ob q n hb hx
 ·exact ⟨ob.slots, u.keep b ob q n hb hx⟩
theorem Un.kept (k : ∀ b u, h.get? b = some u → h'.get? b = some u) : Un fs ex H H h h' :=
 ⟨fun b ob q _ _ _ => k b ob q, fun b ob q _ _ _ => ⟨ob.slots, k b ob q⟩, fun _ _ _ n _ => n, fun b ob q _ => ⟨ob, k b ob q⟩, fun _ _ q => q, fun _ _ _ q => q, fun _ ps q => ⟨#[], by rw [q]; simp⟩⟩
theorem Un.refl : Un fs ex H H h h := Un.kept fun _ _ q => q
theorem Un.laid (k : ∀ b u, h.get? b = some u → h'.get? b = some u) (hp : h.objs.size ≤ a) (hn : H a = none) : Un fs ex H (upd H a o) h h' where
 keep := fun b u q _ _ _ => k b u q
 slot := fun b u q _ _ _ => ⟨u.slots, k b u q⟩
 free := fun b u q n _ => by rw [aH (Nat.ne_of_lt (Nat.lt_of_lt_of_le (Heap.lt_size q) hp))]; exact n
 there := fun b u q _ => ⟨u, k b u q⟩
 tups := fun b xs q => by rw [aH (aJ q hn)]; exact q
 frzs := fun b u xs q => by rw [aH (aJ q hn)]; exact q
 tbls := fun b ps q => ⟨#[], by rw [aH (aJ q hn), q]; simp⟩
theorem Un.write (mu : Mut (H x)) (he : e = x ∨ H e = some (.own x)) (k : ∀ b u, b ≠ e → h.get? b = some u → h'.get? b = some u) (heo : ∃ u, h'.get? e = some u) : Un fs ex H (upd H x o) h h' := by
 have hx : ∀ b, H b = none → b ≠ x := fun b n z => by subst z; rw [n] at mu; exact mu
 have hb : ∀ b, H b = none → b ≠ e := fun b n z => by
  subst z
  rcases he with r | r
  ·exact hx b n r
  ·rw [n] at r; cases r
 have hm : ∀ b u, H b = some u → ¬ Mut (some u) → b ≠ x := fun b u q nm z => by subst z; rw [q] at mu; exact nm mu
 refine ⟨fun b u q n _ _ => k b u (hb b n) q, fun b u q n _ _ => ⟨u.slots, k b u (hb b n) q⟩, fun b u q n _ => by rw [aH (hx b n)]; exact n, fun b u q _ => ?_,
  fun b xs q => by rw [aH (hm b _ q fun z => z)]; exact q, fun b u xs q => by rw [aH (hm b _ q fun z => z)]; exact q, fun b ps q => ⟨#[], by rw [aH (hm b _ q fun z => z), q]; simp⟩⟩
 by_cases hbe : b = e
 ·subst hbe; exact heo
 ·exact ⟨u, k b u hbe q⟩
end
def trk (h : Heap) (H : Hp) : List Addr := (List.range h.objs.size).filter fun a => (H a).isSome
def qg (h : Heap) (H : Hp) : Heap := PySem.W.hideAll h (trk h H)
theorem zp (h : Heap) (H : Hp) : (qg h H).objs.size = h.objs.size := PySem.W.hideAll_size _ _
theorem Bm {h : Heap} {H : Hp} {b : Addr} {o : Obj} (e : h.get? b = some o) (n : H b = none) : (qg h H).get? b = some o :=
 PySem.W.hideAll_get _ e fun hm => by
  have q : (H b).isSome = true := (List.mem_filter.mp hm).2
  rw [n] at q; simp at q
theorem DQ {h : Heap} {H : Hp} {b : Addr} {o : Obj} (e : (qg h H).get? b = some o) : h.get? b = some o ∧ H b = none := by
 have e' : h.get? b = some o := PySem.W.of_hideAll (trk h H) e
 refine ⟨e', ?_⟩
 cases q : H b with
 | none => rfl
 | some x =>
  have hm : b ∈ trk h H := List.mem_filter.mpr ⟨List.mem_range.mpr (Heap.lt_size e'), by simp [q]⟩
  have z : (qg h H).get? b = none := PySem.W.hideAll_none (trk h H) hm
  rw [z] at e; cases e
def CZ (g h : Heap) (L : Addr) : List (Addr × Obj) := (List.range h.objs.size).filterMap fun a => if a = L ∨ (g.get? a).isSome = true then none else (h.get? a).map fun o => (a, o)
def rest (g h : Heap) (L d : Addr) : List (Addr × Obj) := (CZ g h L).filter fun p => decide (p.1 ≠ d)
end L2
namespace L2
open PySem PySem.Spec PyProof.Rows
structure Mod (K : PySem.W.Frag) (mg : Str → Option Value) (base : Heap) : Prop where
 kin : K.In base
 glob : base.Ns mainGlobals mg
 blt : ∃ mb, base.Ns builtinsNs mb ∧ ∀ x : Str, x ≠ "__name__" → mb x = bootBuiltins x
 nolimit : base.NoLimit
structure Cx where
 prog : Program
 w : World
 K : PySem.W.Frag
 mg : Str → Option Value
 base : Heap
 A : Around
 N : List Str
 s₀ : Shared
 H₀ : Hp
 env : Env
 outer : List Env
 stack : List Env
 ex : List Addr
 fn : Str → Bool
 calm : Bool
 pn : List (Addr × Obj)
 xe : Value → Shared → Prop
def frs (l : List Env) : List Addr := l.filterMap (·.frame)
abbrev Cx.fs (X : Cx) : List Addr := frs X.outer
def Vis (sc : Scope) (x : Str) : Prop := sc.names.lookup x = some .local ∨ sc.names.lookup x = some .cell ∨ sc.names.lookup x = some .free
def Loc (sc : Scope) (x : Str) : Prop := sc.names.lookup x = some .local ∨ sc.names.lookup x = some .cell
def Look (env : Env) (h : Heap) (m : Str → Option Value) (x : Str) (u : Value) : Prop :=
 (env.kindOf x = some .local ∧ m x = some u) ∨ ((env.kindOf x = some .cell ∨ env.kindOf x = some .free) ∧ ∃ c, env.cells.lookup x = some c ∧ h.IsCell c (some u))
structure Cx.Ok (X : Cx) : Prop where
 mod : Mod X.K X.mg X.base
 kind : X.env.scope.kind = .function
 glob : X.env.globals = mainGlobals
 blt : X.env.builtins = builtinsNs
 above : X.s₀.heap.objs.size ≤ X.env.locals
 inj : ∀ x y c, X.env.cells.lookup x = some c → X.env.cells.lookup y = some c → x = y
 has : ∀ x, (X.env.kindOf x = some .cell ∨ X.env.kindOf x = some .free) → ∃ c, X.env.cells.lookup x = some c
 cab : ∀ x c, X.fn x = true → X.env.cells.lookup x = some c → X.s₀.heap.objs.size ≤ c
 hd : X.calm = true → X.A.handled = none
 frames : X.A.frames = some X.stack
 stk : X.stack = X.outer ∨ (X.stack = X.env :: X.outer ∧ X.env.frame = some X.env.locals)
 exf : ∀ b ∈ X.ex, b ≠ X.env.locals ∧ ∀ x c, X.env.cells.lookup x = some c → c ≠ b
 bs : ∀ b o, X.base.get? b = some o → X.s₀.heap.get? b = some o ∧ X.H₀ b = none
 bsz : X.base.objs.size ≤ X.s₀.heap.objs.size
 noex : ∀ b o, X.base.get? b = some o → b ∉ X.ex
 exfs : ∀ b ∈ X.ex, b ∉ X.fs
 funs : X.s₀.heap.FunFrames X.base X.outer
 frf : ∀ b ∈ X.fs, X.H₀ b = none
structure Inv (X : Cx) (pins : List (Addr × Obj)) (σ : List (Option V)) (H : Hp) (s : Shared) : Prop where
 ok : X.Ok
 os : s.os = X.s₀.os
 bare : AllBare s.gens
 base : Un X.fs X.ex X.H₀ H X.s₀.heap s.heap
 loc : ∃ m, s.heap.Ns X.env.locals m ∧ ∀ (i : Nat) (x : Str) (v : V), X.N[i]? = some x → σ[i]? = some (some v) → Vis X.env.scope x → ∃ u, RelV v u ∧ Look X.env s.heap m x u
 cell : ∀ x c, X.env.cells.lookup x = some c → ∃ v, s.heap.IsCell c v
 free : H X.env.locals = none
 freeC : ∀ x c, X.env.cells.lookup x = some c → H c = none
 pin : ∀ p ∈ X.pn ++ pins, s.heap.get? p.1 = some p.2 ∧ H p.1 = none ∧ p.1 ≠ X.env.locals ∧ p.1 ∉ X.fs ∧ ∀ v, p.2.data ≠ .cell v
 hok : HOk X.prog X.w H s.heap
 len : σ.length = X.N.length
section
variable {X : Cx} {pins : List (Addr × Obj)} {σ : List (Option V)} {H H' : Hp} {s : Shared} {h' : Heap}
theorem Cx.Ok.nofr (ok : X.Ok) {b : Addr} {o : Obj} (e : X.base.get? b = some o) : b ∉ X.fs := fun hb => by
 have := (ok.funs.mem hb).1
 rw [e] at this; cases this
theorem Inv.bs (I : Inv X pins σ H s) : ∀ b o, X.base.get? b = some o → s.heap.get? b = some o ∧ H b = none := fun b o e =>
 ⟨I.base.keep b o (I.ok.bs b o e).1 (I.ok.bs b o e).2 (I.ok.nofr e) (I.ok.noex b o e), I.base.free b o (I.ok.bs b o e).1 (I.ok.bs b o e).2 (I.ok.noex b o e)⟩
theorem Inv.bk (I : Inv X pins σ H s) : ∀ b o, X.base.get? b = some o → s.heap.get? b = some o := fun b o e => (I.bs b o e).1
theorem Inv.mod (I : Inv X pins σ H s) : Mod X.K X.mg X.base := I.ok.mod
theorem Inv.kIn (I : Inv X pins σ H s) : X.K.In s.heap := I.ok.mod.kin.keeps I.bk
theorem Inv.lt (I : Inv X pins σ H s) : X.env.locals < s.heap.objs.size := let ⟨_, hn, _⟩ := I.loc; hn.lt
theorem Inv.sz (I : Inv X pins σ H s) : X.s₀.heap.objs.size ≤ s.heap.objs.size := Nat.le_trans I.ok.above (Nat.le_of_lt I.lt)
theorem Inv.nofs (I : Inv X pins σ H s) {a : Addr} (h : s.heap.objs.size ≤ a) : a ∉ X.fs := fun hb => by
 obtain ⟨_, o, ho, _⟩ := I.ok.funs.mem hb
 exact absurd (Nat.lt_of_lt_of_le (Heap.lt_size ho) (Nat.le_trans I.sz h)) (Nat.lt_irrefl _)
theorem Inv.cne (I : Inv X pins σ H s) : ∀ x c, X.env.cells.lookup x = some c → c ≠ X.env.locals := fun x c e z => by
 obtain ⟨v, o, ho, hd⟩ := I.cell x c e
 obtain ⟨m, ⟨o', es, ep, ho', hd', _⟩, _⟩ := I.loc
 rw [z, ho'] at ho; cases ho; rw [hd'] at hd; cases hd
theorem Inv.funs (I : Inv X pins σ H s) : s.heap.FunFrames X.base X.outer := by
 have all : ∀ (l : List Env), (∀ b ∈ frs l, b ∈ X.fs) → X.s₀.heap.FunFrames X.base l → s.heap.FunFrames X.base l := by
  intro l
  induction l with
  | nil => intro _ _; trivial
  | cons env r ih =>
   intro hs hl
   obtain ⟨hk, ⟨L, o, hf, hn, ho, hd⟩, hr⟩ := hl
   have hL : L ∈ X.fs := hs L (by unfold frs; rw [List.filterMap_cons, hf]; exact List.mem_cons_self)
   obtain ⟨sl, e⟩ := I.base.slot L o ho (I.ok.frf L hL) hL fun z => I.ok.exfs L z hL
   exact ⟨hk, ⟨L, _, hf, hn, e, hd⟩, ih (fun b hb => hs b (by unfold frs; rw [List.filterMap_cons, hf]; exact List.mem_cons_of_mem _ hb)) hr⟩
 exact all X.outer (fun _ hb => hb) I.ok.funs
theorem Inv.stack (I : Inv X pins σ H s) : s.heap.FunFrames X.base X.stack := by
 rcases I.ok.stk with e | ⟨e, hf⟩
 ·rw [e]; exact I.funs
 ·rw [e]
  obtain ⟨m, hn, _⟩ := I.loc
  refine .cons (by rw [I.ok.kind]; decide) hf hn ?_ I.funs
  exact Heap.get?_none_of_le (Nat.le_trans I.ok.bsz I.ok.above)
theorem Inv.stkSub (I : Inv X pins σ H s) : ∀ b ∈ frs X.stack, b ∈ X.env.locals :: X.fs := fun b hb => by
 rcases I.ok.stk with e | ⟨e, hf⟩
 ·rw [e] at hb; exact List.mem_cons_of_mem _ hb
 ·rw [e] at hb
  unfold frs at hb
  rw [List.filterMap_cons, hf] at hb
  exact hb
theorem Inv.stkFree (I : Inv X pins σ H s) : ∀ b ∈ frs X.stack, H b = none := fun b hb => by
 rcases List.mem_cons.mp (I.stkSub b hb) with e | hb
 ·rw [e]; exact I.free
 ·obtain ⟨_, o, ho, _⟩ := I.ok.funs.mem hb
  exact I.base.free b o ho (I.ok.frf b hb) fun z => I.ok.exfs b z hb
theorem Inv.step {g' : Array GenState} {t' : Nat} {d' : Drawn} {ch : List Addr} (I : Inv X pins σ H s)
  (hch : ∀ b ∈ ch, (b ∈ X.ex ∨ X.s₀.heap.objs.size ≤ b) ∧ b ≠ X.env.locals ∧ (∀ x c, X.env.cells.lookup x = some c → c ≠ b) ∧ ∀ p ∈ X.pn ++ pins, p.1 ≠ b)
  (keep : ∀ b o, b ≠ X.env.locals → b ∉ X.fs → b ∉ ch → s.heap.get? b = some o → H b = none → h'.get? b = some o)
  (slot : ∀ b o, b ≠ X.env.locals → b ∈ X.fs → b ∉ ch → s.heap.get? b = some o → H b = none → ∃ sl, h'.get? b = some { o with slots := sl }) (free : ∀ b o, b ∉ ch → s.heap.get? b = some o → H b = none → H' b = none)
  (there : ∀ b o, b ∉ ch → s.heap.get? b = some o → ∃ o', h'.get? b = some o')
  (tups : ∀ b xs, H b = some (.tup xs) → H' b = some (.tup xs)) (frzs : ∀ b o u, H b = some (.frz o u) → H' b = some (.frz o u)) (tbls : ∀ b ps, H b = some (.tbl ps) → ∃ more, H' b = some (.tbl (ps ++ more)))
  (ns : ∀ m, s.heap.Ns X.env.locals m → h'.Ns X.env.locals m) (hok : HOk X.prog X.w H' h') (hg : AllBare g') :
  Inv X pins σ H' { s with heap := h', gens := g', drawn := d', toks := t' } := by
 have neL : ∀ b o, X.s₀.heap.get? b = some o → b ≠ X.env.locals := fun b o e => Nat.ne_of_lt (Nat.lt_of_lt_of_le (Heap.lt_size e) I.ok.above)
 have neC : ∀ b o, X.s₀.heap.get? b = some o → b ∉ X.ex → b ∉ ch := fun b o e hx hb => by
  rcases (hch b hb).1 with z | z
  ·exact hx z
  ·exact absurd (Nat.lt_of_lt_of_le (Heap.lt_size e) z) (Nat.lt_irrefl _)
 have cellK : ∀ x c, X.env.cells.lookup x = some c → ∀ v, s.heap.IsCell c v → h'.IsCell c v := fun x c e v ⟨o, ho, hd⟩ => by
  have nch : c ∉ ch := fun z => (hch c z).2.2.1 x c e rfl
  by_cases hc : c ∈ X.fs
  ·obtain ⟨sl, q⟩ := slot c o (I.cne x c e) hc nch ho (I.freeC x c e)
   exact ⟨_, q, hd⟩
  ·exact ⟨o, keep c o (I.cne x c e) hc nch ho (I.freeC x c e), hd⟩
 refine ⟨I.ok, I.os, hg, ⟨fun b o e n hb hx => ?_, fun b o e n hb hx => ?_, fun b o e n hx => ?_, fun b o e hx => ?_, fun b xs e => tups b xs (I.base.tups b xs e), fun b o xs e => frzs b o xs (I.base.frzs b o xs e), fun b ps e => ?_⟩, ?_, fun x c e => ?_, ?_, fun x c e => ?_, fun p hp => ?_, hok, I.len⟩
 ·exact keep b o (neL b o e) hb (neC b o e hx) (I.base.keep b o e n hb hx) (I.base.free b o e n hx)
 ·obtain ⟨sl, e1⟩ := I.base.slot b o e n hb hx
  obtain ⟨sl', e2⟩ := slot b _ (neL b o e) hb (neC b o e hx) e1 (I.base.free b o e n hx)
  exact ⟨sl', e2⟩
 ·obtain ⟨o', e1⟩ := I.base.there b o e hx
  exact free b o' (neC b o e hx) e1 (I.base.free b o e n hx)
 ·obtain ⟨o', e1⟩ := I.base.there b o e hx
  exact there b o' (neC b o e hx) e1
 ·obtain ⟨m1, e1⟩ := I.base.tbls b ps e
  obtain ⟨m2, e2⟩ := tbls b _ e1
  exact ⟨m1 ++ m2, by rw [e2, Array.append_assoc]⟩
 ·obtain ⟨m, hn, hl⟩ := I.loc
  refine ⟨m, ns m hn, fun i x v e1 e2 e3 => ?_⟩
  obtain ⟨u, r, l⟩ := hl i x v e1 e2 e3
  refine ⟨u, r, ?_⟩
  rcases l with l | ⟨k, c, e, z⟩
  ·exact .inl l
  ·exact .inr ⟨k, c, e, cellK x c e _ z⟩
 ·obtain ⟨v, z⟩ := I.cell x c e
  exact ⟨v, cellK x c e v z⟩
 ·obtain ⟨m, ⟨o, _, _, ho, _⟩, _⟩ := I.loc
  exact free _ o (fun z => (hch _ z).2.1 rfl) ho I.free
 ·obtain ⟨v, o, ho, hd⟩ := I.cell x c e
  exact free c o (fun z => (hch c z).2.2.1 x c e rfl) ho (I.freeC x c e)
 ·obtain ⟨e, n, ne, nf, d⟩ := I.pin p hp
  have nch : p.1 ∉ ch := fun z => (hch p.1 z).2.2.2 p hp rfl
  exact ⟨keep p.1 p.2 ne nf nch e n, free p.1 p.2 nch e n, ne, nf, d⟩
theorem Inv.un {t' : Nat} (I : Inv X pins σ H s) (u : Un X.fs [] H H' s.heap h') (hok : HOk X.prog X.w H' h') : Inv X pins σ H' { s with heap := h', toks := t' } := by
 obtain ⟨m, ⟨o, es, ep, ho, r⟩, _⟩ := id I.loc
 obtain ⟨sl, hL⟩ := u.any ho I.free (by simp)
 exact I.step (g' := s.gens) (d' := s.drawn) (ch := []) (fun _ z => nomatch z) (fun b o _ hb _ e n => u.keep b o e n hb (by simp)) (fun b o _ hb _ e n => u.slot b o e n hb (by simp)) (fun b o _ e n => u.free b o e n (by simp)) (fun b o _ e => u.there b o e (by simp)) u.tups u.frzs u.tbls (fun m' hm => by
  obtain ⟨o', es', ep', ho', r'⟩ := hm
  rw [ho] at ho'; cases ho'
  exact ⟨_, es', ep', hL, r'⟩) hok I.bare
theorem Inv.call {g' : Array GenState} {t' : Nat} {d' : Drawn} {ch : List Addr} (I : Inv X pins σ H s) (u : Un (frs X.stack) ch H H' s.heap h') (hok : HOk X.prog X.w H' h') (hg : AllBare g')
  (hch : ∀ b ∈ ch, (b ∈ X.ex ∨ X.s₀.heap.objs.size ≤ b) ∧ b ≠ X.env.locals ∧ (∀ x c, X.env.cells.lookup x = some c → c ≠ b) ∧ ∀ p ∈ X.pn ++ pins, p.1 ≠ b) :
  Inv X pins σ H' { s with heap := h', gens := g', drawn := d', toks := t' } := by
 obtain ⟨m, ⟨o, es, ep, ho, r⟩, _⟩ := id I.loc
 obtain ⟨sl, hL⟩ := u.any ho I.free fun z => (hch _ z).2.1 rfl
 exact I.step (ch := ch) hch (fun b o hL hb hc e n => u.keep b o e n (fun z => (List.mem_cons.mp (I.stkSub b z)).elim hL hb) hc) (fun b o _ _ hc e n => u.any e n hc) (fun b o hc e n => u.free b o e n hc) (fun b o hc e => u.there b o e hc) u.tups u.frzs u.tbls (fun m' hm => by
  obtain ⟨o', es', ep', ho', r'⟩ := hm
  rw [ho] at ho'; cases ho'
  exact ⟨_, es', ep', hL, r'⟩) hok hg
theorem Inv.turned {t' : Nat} {it : Addr} (I : Inv X pins σ H s) (k : ∀ b o, b ≠ it → s.heap.get? b = some o → h'.get? b = some o) (hn : H it = none) (hL : it ≠ X.env.locals)
  (h1 : it ∈ X.ex ∨ X.s₀.heap.objs.size ≤ it) (h2 : ∀ x c, X.env.cells.lookup x = some c → c ≠ it) (h3 : ∀ p ∈ X.pn ++ pins, p.1 ≠ it) : Inv X pins σ H { s with heap := h', toks := t' } := by
 have nit : ∀ b u, H b = some u → b ≠ it := fun b u e z => by rw [z, hn] at e; cases e
 refine I.step (g' := s.gens) (d' := s.drawn) (ch := [it]) (fun b hb => ?_) (fun b o _ _ hc e _ => k b o (fun z => hc (by simp [z])) e) (fun b o _ _ hc e _ => ⟨o.slots, k b o (fun z => hc (by simp [z])) e⟩) (fun _ _ _ _ n => n)
  (fun b o hc e => ⟨o, k b o (fun z => hc (by simp [z])) e⟩) (fun _ _ e => e) (fun _ _ _ e => e) (fun b ps e => ⟨#[], by rw [e]; simp⟩) (fun m hm => ?_) (fun b u e => ?_) I.bare
 ·have e : b = it := by simpa using hb
  subst e
  exact ⟨h1, hL, h2, h3⟩
 ·obtain ⟨o, es, ep, ho, r⟩ := hm
  exact ⟨o, es, ep, k _ o (Ne.symm hL) ho, r⟩
 ·refine (I.hok b u e).stay (fun c v hc q => k c v ?_ q) (fun _ q => q) fun _ _ q => q
  rcases hc with z | z
  ·rw [z]; exact nit b u e
  ·exact nit c _ z
theorem Inv.tok (I : Inv X pins σ H s) (t : Nat) : Inv X pins σ H { s with toks := t } := I.un (h' := s.heap) (t' := t) Un.refl I.hok
theorem Inv.kept {t' : Nat} (I : Inv X pins σ H s) (k : ∀ b u, s.heap.get? b = some u → h'.get? b = some u) : Inv X pins σ H { s with heap := h', toks := t' } := I.un (Un.kept k) (I.hok.kept k)
theorem Inv.laid {a : Addr} {o : HO} {t' : Nat} (I : Inv X pins σ H s) (k : ∀ b u, s.heap.get? b = some u → h'.get? b = some u) (hp : s.heap.objs.size ≤ a) (new : bN X.prog X.w (upd H a o) h' a o) :
  Inv X pins σ (upd H a o) { s with heap := h', toks := t' } := I.un (Un.laid k hp (I.hok.fresh hp)) (I.hok.laid k hp new)
theorem Inv.write {x e : Addr} {o : HO} {t' : Nat} (I : Inv X pins σ H s) (mu : Mut (H x)) (he : e = x ∨ H e = some (.own x)) (k : ∀ b u, b ≠ e → s.heap.get? b = some u → h'.get? b = some u) (heo : ∃ u, h'.get? e = some u)
  (new : bN X.prog X.w (upd H x o) h' x o) : Inv X pins σ (upd H x o) { s with heap := h', toks := t' } := I.un (Un.write mu he k heo) (I.hok.write mu he k heo new)
theorem Inv.pins_of {pins' : List (Addr × Obj)} (I : Inv X pins σ H s) (h : ∀ p ∈ pins', s.heap.get? p.1 = some p.2 ∧ H p.1 = none ∧ p.1 ≠ X.env.locals ∧ p.1 ∉ X.fs ∧ ∀ v, p.2.data ≠ .cell v) : Inv X pins' σ H s :=
 ⟨I.ok, I.os, I.bare, I.base, I.loc, I.cell, I.free, I.freeC, fun p hp => (List.mem_append.mp hp).elim (fun z => I.pin p (List.mem_append_left _ z)) (h p), I.hok, I.len⟩
theorem vq {N : List Str} (hN : N.Nodup) {i j : Nat} {x : Str} (a : N[i]? = some x) (b : N[j]? = some x) : i = j := by
 obtain ⟨h1, e1⟩ := List.getElem?_eq_some_iff.mp a
 obtain ⟨h2, e2⟩ := List.getElem?_eq_some_iff.mp b
 exact (List.getElem_inj hN).mp (e1.trans e2.symm)
theorem nM {M : Model} {A : Around} {E : Value → Shared → Prop} {i : Nat} {x : Str} {v : V} {u : Value} {Q : Unit → Shared → Prop} (I : Inv X pins σ H s) (hN : X.N.Nodup) (hi : X.N[i]? = some x) (hx : Loc X.env.scope x) (r : RelV v u)
  (h : ∀ s', Inv X pins (σ.set i (some v)) H s' → (∃ a, Heap.SameBut a s.heap s'.heap ∧ (a = X.env.locals ∨ X.env.cells.lookup x = some a)) → Q () s') (hf : X.fn x = true ∨ X.env.scope.names.lookup x = some .local := by first | exact .inl rfl | exact .inr rfl | assumption) : wpAny M A (storeName X.env x u) Q E s := by
 obtain ⟨m, hn, hl⟩ := id I.loc
 have hcls : (X.env.scope.kind == .class || (X.env.scope.kind == .module && X.env.locals != X.env.globals)) = false := by rw [I.ok.kind]; rfl
 have hiσ : i < σ.length := by rw [I.len]; exact (List.getElem?_eq_some_iff.mp hi).1
 have cne := I.cne
 have tracked : ∀ {a : Addr} {h' : Heap}, (∃ o, s.heap.get? a = some o ∧ H a = none) → Heap.SameBut a s.heap h' → HOk X.prog X.w H h' := fun {a h'} ha hs b ob e => by
  obtain ⟨_, _, hfree⟩ := ha
  refine (I.hok b ob e).stay (fun c w' hc q => (hs.2 c ?_).trans q) (fun _ q => q) fun _ _ q => q
  rintro rfl
  rcases hc with rfl | hc
  ·rw [hfree] at e; cases e
  ·rw [hfree] at hc; cases hc
 rcases hx with hk | hk
 ·refine wpAny_storeName_local hk hn (fun h' hn' hs => ?_) hcls
  obtain ⟨oL, _, _, hoL, _⟩ := id hn
  refine h _ ⟨I.ok, I.os, I.bare, ⟨fun b o e n hb hx => ?_, fun b o e n hb hx => ?_, I.base.free, fun b o e hx => ?_, I.base.tups, I.base.frzs, I.base.tbls⟩, ⟨_, hn', fun j y v' e1 e2 e3 => ?_⟩, fun y c e => ?_, I.free, I.freeC, fun p hp => ?_, tracked ⟨oL, hoL, I.free⟩ hs, by simpa using I.len⟩ ⟨_, hs, .inl rfl⟩
  ·exact (hs.2 b (Nat.ne_of_lt (Nat.lt_of_lt_of_le (Heap.lt_size e) I.ok.above))).trans (I.base.keep b o e n hb hx)
  ·obtain ⟨sl, e1⟩ := I.base.slot b o e n hb hx
   exact ⟨sl, (hs.2 b (Nat.ne_of_lt (Nat.lt_of_lt_of_le (Heap.lt_size e) I.ok.above))).trans e1⟩
  ·obtain ⟨o', e1⟩ := I.base.there b o e hx
   exact ⟨o', (hs.2 b (Nat.ne_of_lt (Nat.lt_of_lt_of_le (Heap.lt_size e) I.ok.above))).trans e1⟩
  ·by_cases hj : j = i
   ·subst hj
    rw [hi] at e1; cases e1
    rw [List.getElem?_set_self hiσ] at e2
    cases e2
    exact ⟨u, r, .inl ⟨hk, by simp⟩⟩
   ·rw [List.getElem?_set_ne (Ne.symm hj)] at e2
    obtain ⟨u', r', q⟩ := hl j y v' e1 e2 e3
    refine ⟨u', r', ?_⟩
    rcases q with ⟨k, e⟩ | ⟨k, c, e, z⟩
    ·refine .inl ⟨k, ?_⟩
     have : y ≠ x := fun e => hj (vq hN e1 (e ▸ hi))
     simp [this, e]
    ·exact .inr ⟨k, c, e, z.sameBut hs (cne y c e)⟩
  ·obtain ⟨w', z⟩ := I.cell y c e
   exact ⟨w', z.sameBut hs (cne y c e)⟩
  ·obtain ⟨e, n, ne, nf, d⟩ := I.pin p hp
   exact ⟨(hs.2 p.1 ne).trans e, n, ne, nf, d⟩
 ·have hfn : X.fn x = true := by
   rcases hf with z | z
   ·exact z
   ·rw [z] at hk; cases hk
  obtain ⟨c, hc⟩ := I.ok.has x (.inl hk)
  obtain ⟨w', z⟩ := I.cell x c hc
  refine wpAny_storeName_cell I.ok.kind hk hc z (fun h' hc' hs => ?_)
  obtain ⟨oc, hoc, hocd⟩ := id z
  refine h { s with heap := h' } ⟨I.ok, I.os, I.bare, ⟨fun b o e n hb hx => ?_, fun b o e n hb hx => ?_, I.base.free, fun b o e hx => ?_, I.base.tups, I.base.frzs, I.base.tbls⟩, ⟨m, hn.sameBut hs (Ne.symm (cne x c hc)), fun j y v' e1 e2 e3 => ?_⟩, fun y c' e => ?_, I.free, I.freeC, fun p hp => ?_, tracked ⟨oc, hoc, I.freeC x c hc⟩ hs, by simpa using I.len⟩ ⟨c, hs, .inr hc⟩
  ·exact (hs.2 b (Nat.ne_of_lt (Nat.lt_of_lt_of_le (Heap.lt_size e) (I.ok.cab x c hfn hc)))).trans (I.base.keep b o e n hb hx)
  ·obtain ⟨sl, e1⟩ := I.base.slot b o e n hb hx
   exact ⟨sl, (hs.2 b (Nat.ne_of_lt (Nat.lt_of_lt_of_le (Heap.lt_size e) (I.ok.cab x c hfn hc)))).trans e1⟩
  ·obtain ⟨o', e1⟩ := I.base.there b o e hx
   exact ⟨o', (hs.2 b (Nat.ne_of_lt (Nat.lt_of_lt_of_le (Heap.lt_size e) (I.ok.cab x c hfn hc)))).trans e1⟩
  ·by_cases hj : j = i
   ·subst hj
    rw [hi] at e1; cases e1
    rw [List.getElem?_set_self hiσ] at e2
    cases e2
    exact ⟨u, r, .inr ⟨.inl hk, c, hc, hc'⟩⟩
   ·rw [List.getElem?_set_ne (Ne.symm hj)] at e2
    obtain ⟨u', r', q⟩ := hl j y v' e1 e2 e3
    refine ⟨u', r', ?_⟩
    rcases q with q | ⟨k, c', e, z'⟩
    ·exact .inl q
    ·refine .inr ⟨k, c', e, z'.sameBut hs ?_⟩
     rintro rfl
     exact hj (vq hN e1 (I.ok.inj _ _ _ e hc ▸ hi))
  ·by_cases hcc : c' = c
   ·subst hcc; exact ⟨_, hc'⟩
   ·obtain ⟨w2, z2⟩ := I.cell y c' e
    exact ⟨w2, z2.sameBut hs hcc⟩
  ·obtain ⟨e, n, ne, nf, d⟩ := I.pin p hp
   refine ⟨(hs.2 p.1 ?_).trans e, n, ne, nf, d⟩
   intro q
   rw [q, hoc] at e
   have q' : oc = p.2 := Option.some.inj e
   exact d w' (by rw [← q']; exact hocd)
theorem qJ {M : Model} {A : Around} {E : Value → Shared → Prop} {i : Nat} {x : Str} {v : V} {u : Value} {Q : Unit → Shared → Prop} (I : Inv X pins σ H s) (hN : X.N.Nodup) (hi : X.N[i]? = some x) (hx : Loc X.env.scope x) (r : RelV v u)
  (h : ∀ s', Inv X pins (σ.set i (some v)) H s' → Q () s') (hf : X.fn x = true ∨ X.env.scope.names.lookup x = some .local := by first | exact .inl rfl | exact .inr rfl | assumption) : wpAny M A (storeName X.env x u) Q E s :=
 nM I hN hi hx r (fun s' I' _ => h s' I') hf
theorem Inv.call' {s' : Shared} {ch : List Addr} (I : Inv X pins σ H s) (ho : s'.os = s.os) (u : Un (frs X.stack) ch H H' s.heap s'.heap) (hok : HOk X.prog X.w H' s'.heap) (hg : AllBare s'.gens)
  (hch : ∀ b ∈ ch, (b ∈ X.ex ∨ X.s₀.heap.objs.size ≤ b) ∧ b ≠ X.env.locals ∧ (∀ x c, X.env.cells.lookup x = some c → c ≠ b) ∧ ∀ p ∈ X.pn ++ pins, p.1 ≠ b) : Inv X pins σ H' s' := by
 obtain ⟨h', g', d', t', o'⟩ := s'
 have e : o' = s.os := ho
 subst e
 exact I.call (g' := g') (t' := t') (d' := d') u hok hg hch
end
abbrev XK := Value → Option Addr → Hp → Prop
abbrev St := List (Option V)
abbrev VK := V → Hp → Prop
abbrev TE := St → Hp → VK → Prop
abbrev TT := St → Hp → (Bool → Hp → Prop) → Prop
abbrev TA := St → Hp → (List V → Hp → Prop) → Prop
structure Ends where
 nx : St → Hp → Prop
 rt : VK
 bk : St → Hp → Prop := fun _ _ => False
 ct : St → Hp → Prop := fun _ _ => False
abbrev TS := Ends → St → Hp → Prop
def EP (X : Cx) (pins : List (Addr × Obj)) (σ : St) (Q : VK) (u : Value) (s' : Shared) : Prop := ∃ v H', Inv X pins σ H' s' ∧ RelV v u ∧ Q v H'
def TP (X : Cx) (pins : List (Addr × Obj)) (σ : St) (Q : Bool → Hp → Prop) (b : Bool) (s' : Shared) : Prop := ∃ H', Inv X pins σ H' s' ∧ Q b H'
def AP (X : Cx) (pins : List (Addr × Obj)) (σ : St) (Q : List V → Hp → Prop) (us : List Value) (s' : Shared) : Prop := ∃ vs H', Inv X pins σ H' s' ∧ Vals vs us ∧ Q vs H'
def SP (X : Cx) (pins : List (Addr × Obj)) (D : Ends) (f : Flow) (s' : Shared) : Prop :=
 match f with
 | .next => ∃ σ' H', Inv X pins σ' H' s' ∧ D.nx σ' H'
 | .brk => ∃ σ' H', Inv X pins σ' H' s' ∧ D.bk σ' H'
 | .cont => ∃ σ' H', Inv X pins σ' H' s' ∧ D.ct σ' H'
 | .ret u => ∃ v σ' H', Inv X pins σ' H' s' ∧ RelV v u ∧ D.rt v H'
def PE (X : Cx) (e : Expr) (t : TE) : Prop :=
 ∀ (pins : List (Addr × Obj)) (s : Shared) (σ : St) (H : Hp) (Q : VK), Inv X pins σ H s → t σ H Q → wpAny (model X.prog X.w) X.A (eval e X.env) (EP X pins σ Q) X.xe s
def PT (X : Cx) (e : Expr) (t : TT) : Prop :=
 ∀ (pins : List (Addr × Obj)) (s : Shared) (σ : St) (H : Hp) (Q : Bool → Hp → Prop), Inv X pins σ H s → t σ H Q → wpAny (model X.prog X.w) X.A (isTrue e X.env (eval e X.env)) (TP X pins σ Q) X.xe s
def PW (X : Cx) (e : Expr) (t : TT) : Prop :=
 ∀ (whole : Sem Value) (pins : List (Addr × Obj)) (s : Shared) (σ : St) (H : Hp) (Q : Bool → Hp → Prop), Inv X pins σ H s → t σ H Q → wpAny (model X.prog X.w) X.A (isTrue e X.env whole) (TP X pins σ Q) X.xe s
theorem PW.pt {X : Cx} {e : Expr} {t : TT} (h : PW X e t) : PT X e t := h _
def PA (X : Cx) (es : List Expr) (t : TA) : Prop :=
 ∀ (pos : Pos) (pins : List (Addr × Obj)) (s : Shared) (σ : St) (H : Hp) (Q : List V → Hp → Prop), Inv X pins σ H s → t σ H Q → wpAny (model X.prog X.w) X.A (spliced (backTo pos (starEach es X.env))) (AP X pins σ Q) X.xe s
def PS (X : Cx) (st : Stmt) (t : TS) : Prop :=
 ∀ (pins : List (Addr × Obj)) (s : Shared) (σ : St) (H : Hp) (D : Ends), Inv X pins σ H s → t D σ H → wpAny (model X.prog X.w) X.A (exec st X.env) (SP X pins D) X.xe s
def PSs (X : Cx) (st : List Stmt) (t : TS) : Prop :=
 ∀ (pins : List (Addr × Obj)) (s : Shared) (σ : St) (H : Hp) (D : Ends), Inv X pins σ H s → t D σ H → wpAny (model X.prog X.w) X.A (execs st X.env) (SP X pins D) X.xe s
theorem thn {α : Type} {t : Sem α} {Q Q' : α → Shared → Prop} {M : Model} {A : Around} {E : Value → Shared → Prop} {s : Shared} (h : wpAny M A t Q E s) (hQ : ∀ a s, Q a s → Q' a s) : wpAny M A t Q' E s := wpAny_mono h hQ fun _ _ x => x
end L2
namespace L2
open PySem PySem.Spec PyProof.Rows
section
variable {X : Cx}
theorem bin {a b : Expr} {ta tb : TE} (ha : PE X a ta) (hb : PE X b tb) {pins : List (Addr × Obj)} {s : Shared} {σ : St} {H : Hp} {R : V → V → Hp → Prop} (I : Inv X pins σ H s) (h : ta σ H fun x H1 => tb σ H1 fun y H2 => R x y H2)
  {α : Type} {Q : α → Shared → Prop} {f : Value → Value → Sem α}
  (hf : ∀ v u s2 x y H2, Inv X pins σ H2 s2 → RelV x v → RelV y u → R x y H2 → wpAny (model X.prog X.w) X.A (f v u) Q X.xe s2) :
  wpAny (model X.prog X.w) X.A (eval a X.env) (fun v s₁ => wpAny (model X.prog X.w) X.A (eval b X.env) (fun u s₂ => wpAny (model X.prog X.w) X.A (f v u) Q X.xe s₂) X.xe s₁) X.xe s := by
 refine thn (ha pins s σ H _ I h) fun v s1 ⟨x, H1, I1, r1, q1⟩ => ?_
 refine thn (hb pins s1 σ H1 _ I1 q1) fun u s2 ⟨y, H2, I2, r2, q2⟩ => ?_
 exact hf v u s2 x y H2 I2 r1 r2 q2
def FQ (i : Nat) : TE := fun σ H Q => ∃ v, σ[i]? = some (some v) ∧ Q v H
def tC (v : V) : TE := fun _ H Q => Q v H
theorem w5 {i : Nat} {x : Str} {pos : Pos} (hN : X.N[i]? = some x) (hv : Vis X.env.scope x) (hd : (x == ("__debug__" : Str)) = false := by decide) (hcd : (x == ("__classdict__" : Str)) = false := by decide) : PE X (.Name x pos) (FQ i) := by
 intro pins s σ H Q I h
 obtain ⟨v, e, h⟩ := h
 obtain ⟨m, hn, hl⟩ := I.loc
 obtain ⟨u, r, l⟩ := hl i x v hN e hv
 have fin : EP X pins σ Q u s := ⟨v, H, I, r, h⟩
 rcases l with ⟨hk, hm⟩ | ⟨hk, c, hc, hcell⟩
 ·exact wpAny_Name (wpAny_loadName_local I.ok.kind hk hn hm fin) hd
 ·rcases hk with hk | hk
  ·exact wpAny_Name (wpAny_loadName_cell I.ok.kind hk hc hcell fin) hd
  ·exact wpAny_Name (wpAny_loadName_free I.ok.kind hk hc hcell fin hcd) hd
theorem ao {i j pos} : PE X (.Constant (.int i) j pos) (tC (.int i)) := fun _ _ _ H _ I h => wpAny_Constant_int ⟨.int i, H, I.tok _, ⟨_, rfl⟩, h⟩
theorem zg {b j pos} : PE X (.Constant (.bool b) j pos) (tC (.bl b)) := fun _ _ _ H _ I h => Constant_bool ⟨.bl b, H, I, rfl, h⟩
theorem bW {j pos} : PE X (.Constant .none j pos) (tC .non) := fun _ _ _ H _ I h => Constant_none ⟨.non, H, I, rfl, h⟩
theorem Fp {x j pos} : PE X (.Constant (.str x) j pos) (tC (.str x)) := fun _ _ _ H _ I h => Calls.Constant_str ⟨.str x, H, I.tok _, ⟨_, rfl⟩, h⟩
def Gl (X : Cx) (x : Str) : Prop := X.env.kindOf x = some .globalImplicit
theorem uZ {E : Value → Shared → Prop} {pins : List (Addr × Obj)} {s : Shared} {σ : St} {H : Hp} {x : Str} {u : Value} {pos : Pos} {Q : Value → Shared → Prop} (I : Inv X pins σ H s) (hg : Gl X x) (hm : X.mg x = some u) (h : Q u s)
  (hd : (x == ("__debug__" : Str)) = false := by decide) : wpAny (model X.prog X.w) X.A (eval (.Name x pos) X.env) Q E s :=
 Calls.Name_function_global I.ok.kind hg (Calls.loadGlobal_global (by rw [I.ok.glob]; exact I.mod.glob.keeps I.bk) hm h) hd
theorem dC {E : Value → Shared → Prop} {pins : List (Addr × Obj)} {s : Shared} {σ : St} {H : Hp} {x : Str} {u : Value} {pos : Pos} {Q : Value → Shared → Prop} (I : Inv X pins σ H s) (hg : Gl X x) (hm : X.mg x = none) (hv : bootBuiltins x = some u) (h : Q u s)
  (hn : x ≠ "__name__" := by decide) (hd : (x == ("__debug__" : Str)) = false := by decide) : wpAny (model X.prog X.w) X.A (eval (.Name x pos) X.env) Q E s := by
 obtain ⟨mb, h1, h2⟩ := I.mod.blt
 exact Calls.Name_function_global I.ok.kind hg (Calls.loadGlobal_builtin (by rw [I.ok.glob]; exact I.mod.glob.keeps I.bk) hm (by rw [I.ok.blt]; exact h1.keeps I.bk) ((h2 x hn).trans hv) h) hd
theorem bO {x : Str} {v : V} {u : Value} {pos : Pos} (hg : Gl X x) (hm : X.mg x = some u) (r : RelV v u) (hd : (x == ("__debug__" : Str)) = false := by decide) : PE X (.Name x pos) (tC v) :=
 fun _ _ _ H _ I h => uZ I hg hm ⟨v, H, I, r, h⟩ hd
theorem pY {x : Str} {v : V} {u : Value} {pos : Pos} (hg : Gl X x) (hm : X.mg x = none) (hv : bootBuiltins x = some u) (r : RelV v u) (hn : x ≠ "__name__" := by decide) (hd : (x == ("__debug__" : Str)) = false := by decide) : PE X (.Name x pos) (tC v) :=
 fun _ _ _ H _ I h => dC I hg hm hv ⟨v, H, I, r, h⟩ hn hd
variable {a b : Expr} {ta tb : TE} {pos : Pos}
def PC (X : Cx) (op : CmpOp) (a b : Expr) (t : TE) : Prop :=
 ∀ (pins : List (Addr × Obj)) (s : Shared) (σ : St) (H : Hp) (Q : VK), Inv X pins σ H s → t σ H Q →
  wpAny (model X.prog X.w) X.A (eval a X.env) (fun v s₁ => wpAny (model X.prog X.w) X.A (eval b X.env) (fun u s₂ => wpAny (model X.prog X.w) X.A (compareOp op v u) (EP X pins σ Q) X.xe s₂) X.xe s₁) X.xe s
theorem vX (b : Expr) {op : CmpOp} (h : op ≠ .In) (h2 : op ≠ .NotIn) : behindInMarks op b = false := by
 have e1 : (op == CmpOp.In) = false := by cases op <;> first | rfl | exact absurd rfl h
 have e2 : (op == CmpOp.NotIn) = false := by cases op <;> first | rfl | exact absurd rfl h2
 cases b <;> simp [behindInMarks, e1, e2]
def Hs (ta : TE) : TE := fun σ H Q => ta σ H fun x H1 => Q (.bl (decide (x = .non))) H1
def Ha (ta : TE) : TE := fun σ H Q => ta σ H fun x H1 => Q (.bl (!decide (x = .non))) H1
theorem RelV.none_iff {x : V} {v : Value} (r : RelV x v) : (v == Value.none) = decide (x = .non) := by
 cases x with
 | non => cases r; rfl
 | bl _ => cases r; rfl
 | int _ => obtain ⟨t, rfl⟩ := r; rfl
 | str _ => obtain ⟨t, rfl⟩ := r; rfl
 | byt _ => obtain ⟨t, rfl⟩ := r; rfl
 | flt _ => obtain ⟨t, rfl⟩ := r; rfl
 | ref _ => cases r; rfl
 | ty _ => cases r; rfl
theorem iD {j pos'} (ha : PE X a ta) : PC X .Is a (.Constant .none j pos') (Hs ta) := by
 intro pins s σ H Q I h
 refine thn (ha pins s σ H _ I h) fun v s1 ⟨x, H1, I1, r1, q1⟩ => ?_
 exact Constant_none (is_none_gen ⟨.bl _, H1, I1, by rw [r1.none_iff]; rfl, q1⟩)
theorem uD {j pos'} (ha : PE X a ta) : PC X .IsNot a (.Constant .none j pos') (Ha ta) := by
 intro pins s σ H Q I h
 refine thn (ha pins s σ H _ I h) fun v s1 ⟨x, H1, I1, r1, q1⟩ => ?_
 exact Constant_none (isnot_none_gen ⟨.bl _, H1, I1, by rw [r1.none_iff]; rfl, q1⟩)
def tB (t : TE) : TT := fun σ H Q => t σ H fun x H1 => ∃ c, x = .bl c ∧ Q c H1
theorem Ep {op : CmpOp} {t : TE} (h : PC X op a b t) (h1 : behindInMarks op b = false := by first | exact vX _ (by decide) (by decide) | rfl) : PE X (.Compare a [op] [b] pos) t := fun pins s σ H Q I hw => wpAny_Compare1 (h pins s σ H Q I hw) h1
theorem fV {op : CmpOp} {t : TE} (h : PC X op a b t) (h1 : behindInMarks op b = false := by first | exact vX _ (by decide) (by decide) | rfl) : PT X (.Compare a [op] [b] pos) (tB t) := by
 intro pins s σ H Q I hw
 refine wpAny_isTrue_Compare1 (thn (h pins s σ H _ I hw) fun v s1 h1 => thn h1 fun u s2 h2 => thn h2 fun c s3 ⟨x, H1, I1, r1, q1⟩ => ?_) h1
 obtain ⟨d, rfl, q⟩ := q1
 cases r1
 exact wpAny_truthy_bool ⟨H1, I1, q⟩
theorem ux {e : Expr} {t : TE} (h : PE X e t) (he : ∀ whole, isTrue e X.env whole = (do let v ← whole; standAt e.pos; holding [v] (truthy v)) := by intro _; rfl) : PT X e (tB t) := by
 intro pins s σ H Q I hw
 refine isTrue_plain (thn (h pins s σ H _ I hw) fun v s1 ⟨x, H1, I1, r1, q1⟩ => ?_) (he _)
 obtain ⟨d, rfl, q⟩ := q1
 cases r1
 exact wpAny_truthy_bool ⟨H1, I1, q⟩
variable {tA tB' : TT} {rest : List Expr}
def Hi (t u : TT) : TT := fun σ H Q => t σ H fun c H1 => if c = true then u σ H1 Q else Q false H1
def tOr (t u : TT) : TT := fun σ H Q => t σ H fun c H1 => if c = true then Q true H1 else u σ H1 Q
def Ho (t : TT) : TT := fun σ H Q => t σ H fun c H1 => Q (!c) H1
theorem iW (ha : PT X a tA) : PW X (.BoolOp .And [a] pos) tA := by
 intro wh pins s σ H Q I h
 refine isTrue_and (thn (ha pins s σ H Q I h) fun c s1 e => ?_)
 cases c with
 | true => exact isTrue_and_nil e
 | false => exact e
theorem lA (ha : PT X a tA) : PW X (.BoolOp .Or [a] pos) tA := by
 intro wh pins s σ H Q I h
 refine isTrue_or (thn (ha pins s σ H Q I h) fun c s1 e => ?_)
 cases c with
 | false => exact isTrue_or_nil e
 | true => exact e
theorem jk (ha : PT X a tA) (hb : PW X (.BoolOp .And (b :: rest) pos) tB') : PW X (.BoolOp .And (a :: b :: rest) pos) (Hi tA tB') := by
 intro wh pins s σ H Q I h
 refine isTrue_and (thn (ha pins s σ H _ I h) fun c s1 ⟨H1, I1, q1⟩ => ?_)
 cases c with
 | true => exact hb wh pins s1 σ H1 Q I1 q1
 | false => exact ⟨H1, I1, q1⟩
theorem pq (ha : PT X a tA) (hb : PW X (.BoolOp .Or (b :: rest) pos) tB') : PW X (.BoolOp .Or (a :: b :: rest) pos) (tOr tA tB') := by
 intro wh pins s σ H Q I h
 refine isTrue_or (thn (ha pins s σ H _ I h) fun c s1 ⟨H1, I1, q1⟩ => ?_)
 cases c with
 | true => exact ⟨H1, I1, q1⟩
 | false => exact hb wh pins s1 σ H1 Q I1 q1
theorem lw (ha : PT X a tA) : PT X (.UnaryOp .Not a pos) (Ho tA) := by
 intro pins s σ H Q I h
 exact isTrue_not (ha pins s σ H (fun c H1 => Q (!c) H1) I h)
def GP (ta tb : TE) : TE := fun σ H Q => ta σ H fun x H1 => ∃ c, x = .bl c ∧ if c = true then tb σ H1 Q else Q (.bl false) H1
def Gx (ta : TE) : TE := fun σ H Q => ta σ H fun x H1 => ∃ c, x = .bl c ∧ Q (.bl (!c)) H1
theorem nW {op} {t : TE} (h : PE X a t) : PE X (.BoolOp op [a] pos) t := fun pins s σ H Q I hw => BoolOp_one (h pins s σ H Q I hw)
theorem nZ (ha : PE X a ta) (hb : PE X (.BoolOp .And (b :: rest) pos) tb) : PE X (.BoolOp .And (a :: b :: rest) pos) (GP ta tb) := by
 intro pins s σ H Q I h
 refine BoolOp_and (thn (ha pins s σ H _ I h) fun v s1 ⟨x, H1, I1, r1, q1⟩ => ?_)
 obtain ⟨c, rfl, q1⟩ := q1
 cases r1
 refine wpAny_truthy_bool ?_
 cases c with
 | true => exact hb pins s1 σ H1 Q I1 q1
 | false => exact ⟨.bl false, H1, I1, rfl, q1⟩
theorem Fw (ha : PE X a ta) : PE X (.UnaryOp .Not a pos) (Gx ta) := by
 intro pins s σ H Q I h
 refine UnaryOp_ (thn (ha pins s σ H _ I h) fun v s1 ⟨x, H1, I1, r1, q1⟩ => ?_)
 obtain ⟨c, rfl, q1⟩ := q1
 cases r1
 exact not_of (wpAny_truthy_bool ⟨.bl (!c), H1, I1, rfl, q1⟩)
end
end L2
namespace L2
open PySem PySem.Spec PyProof.Rows
def SqL (K : PySem.W.Frag) (H : Hp) (a : Addr) (xs : List V) : Prop :=
 Rd H a (.lst xs) ∨
  ∃ (o : Obj) (its : Array Value) (n : Nat), K.lookup a = some o ∧ o.cls = .type "list" ∧ o.dict = none ∧ o.data = .seq its n ∧ its.size ≤ sizeLine ∧ Vals xs its.toList
def SqT (K : PySem.W.Frag) (H : Hp) (a : Addr) (xs : List V) : Prop :=
 Rd H a (.tup xs) ∨
  ∃ (o : Obj) (its : Array Value) (n : Nat), K.lookup a = some o ∧ o.cls = .type "tuple" ∧ o.data = .seq its n ∧ its.size ≤ sizeLine ∧ Vals xs its.toList
def Hr : Value → Option V
 | .none => some .non
 | .bool b => some (.bl b)
 | .int i _ => some (.int i)
 | .str x _ => some (.str x)
 | .bytes b _ => some (.byt b)
 | .float b _ => some (.flt b)
 | .ref a => some (.ref a)
 | .type n => some (.ty n)
 | _ => none
theorem RelV.abs {x : V} {u : Value} (r : RelV x u) : Hr u = some x := by
 cases x with
 | non => cases r; rfl
 | bl _ => cases r; rfl
 | int _ => obtain ⟨t, rfl⟩ := r; rfl
 | str _ => obtain ⟨t, rfl⟩ := r; rfl
 | byt _ => obtain ⟨t, rfl⟩ := r; rfl
 | flt _ => obtain ⟨t, rfl⟩ := r; rfl
 | ref _ => cases r; rfl
 | ty _ => cases r; rfl
theorem RelV.inj {x y : V} {u : Value} (r : RelV x u) (q : RelV y u) : x = y := Option.some.inj (r.abs.symm.trans q.abs)
theorem Vals.inj : ∀ {xs ys : List V} {us : List Value}, Vals xs us → Vals ys us → xs = ys
 | _, _, _, .nil, .nil => rfl
 | _, _, _, .cons r t, .cons r' t' => by rw [r.inj r', Vals.inj t t']
section
variable {X : Cx} {pins : List (Addr × Obj)} {σ : St} {H : Hp} {s : Shared} {a : Addr} {xs ys : List V}
theorem SqL.of {K : PySem.W.Frag} (h : H a = some (.lst xs)) : SqL K H a xs := .inl (.inl h)
theorem SqT.of {K : PySem.W.Frag} (h : H a = some (.tup xs)) : SqT K H a xs := .inl (.inl h)
theorem Inv.list (I : Inv X pins σ H s) (h : SqL X.K H a xs) : ∃ its : List Value, Vals xs its ∧ PlainL s.heap a its.toArray ∧ xs.length ≤ sizeLine := by
 rcases h with h | ⟨o, its, n, hk, hc, hd, hs, hz, r⟩
 ·obtain ⟨z, its, n, r, e⟩ := h.ok I.hok
  exact ⟨its, r, ⟨_, n, e, rfl, rfl, rfl⟩, z⟩
 ·refine ⟨its.toList, r, ⟨o, n, I.kIn a o hk, hc, hd, by simpa using hs⟩, ?_⟩
  have e := r.length
  simp only [Array.length_toList] at e
  omega
theorem Inv.tuple (I : Inv X pins σ H s) (h : SqT X.K H a xs) : ∃ its : List Value, Vals xs its ∧ IsTup s.heap a its.toArray ∧ xs.length ≤ sizeLine := by
 rcases h with h | ⟨o, its, n, hk, hc, hs, hz, r⟩
 ·obtain ⟨z, its, r, p⟩ := h.ok I.hok
  exact ⟨its, r, p, z⟩
 ·refine ⟨its.toList, r, ⟨o, I.kIn a o hk, hc, n, by simpa using hs⟩, ?_⟩
  have e := r.length
  simp only [Array.length_toList] at e
  omega
theorem Inv.list_inj (I : Inv X pins σ H s) (h : SqL X.K H a xs) (h' : SqL X.K H a ys) : xs = ys := by
 obtain ⟨its, r, ⟨o, n, e, _, _, d⟩, _⟩ := I.list h
 obtain ⟨its', r', ⟨o', n', e', _, _, d'⟩, _⟩ := I.list h'
 rw [e] at e'; cases e'
 rw [d] at d'
 injection d' with d1 _
 have : its = its' := by simpa using congrArg Array.toList d1
 subst this
 exact r.inj r'
end
abbrev Cx.wish (X : Cx) (E : Value → Shared → Prop) : Cx := { X with xe := E }
abbrev Cx.nox (X : Cx) : Cx := X.wish fun _ _ => False
theorem Cx.Ok.wish {X : Cx} (ok : X.Ok) (E : Value → Shared → Prop) : (X.wish E).Ok :=
 ⟨ok.mod, ok.kind, ok.glob, ok.blt, ok.above, ok.inj, ok.has, ok.cab, ok.hd, ok.frames, ok.stk, ok.exf, ok.bs, ok.bsz, ok.noex, ok.exfs, ok.funs, ok.frf⟩
theorem Cx.Ok.unwish {X : Cx} {E : Value → Shared → Prop} (ok : (X.wish E).Ok) : X.Ok :=
 ⟨ok.mod, ok.kind, ok.glob, ok.blt, ok.above, ok.inj, ok.has, ok.cab, ok.hd, ok.frames, ok.stk, ok.exf, ok.bs, ok.bsz, ok.noex, ok.exfs, ok.funs, ok.frf⟩
section
variable {X : Cx} {pins : List (Addr × Obj)} {σ : St} {H : Hp} {s : Shared} {E : Value → Shared → Prop}
theorem Inv.wish (I : Inv X pins σ H s) (E : Value → Shared → Prop) : Inv (X.wish E) pins σ H s := ⟨I.ok.wish E, I.os, I.bare, I.base, I.loc, I.cell, I.free, I.freeC, I.pin, I.hok, I.len⟩
theorem Inv.unwish (I : Inv (X.wish E) pins σ H s) : Inv X pins σ H s := ⟨I.ok.unwish, I.os, I.bare, I.base, I.loc, I.cell, I.free, I.freeC, I.pin, I.hok, I.len⟩
theorem SP.unwish {D : Ends} {f : Flow} {s' : Shared} (h : SP (X.wish E) pins D f s') : SP X pins D f s' := by
 cases f with
 | next => obtain ⟨σ', H', I, q⟩ := h; exact ⟨σ', H', I.unwish, q⟩
 | brk => obtain ⟨σ', H', I, q⟩ := h; exact ⟨σ', H', I.unwish, q⟩
 | cont => obtain ⟨σ', H', I, q⟩ := h; exact ⟨σ', H', I.unwish, q⟩
 | ret u => obtain ⟨v, σ', H', I, r, q⟩ := h; exact ⟨v, σ', H', I.unwish, r, q⟩
theorem PSs.nox {st : List Stmt} {t : TS} (h : PSs X.nox st t) : PSs X st t := fun pins s σ H D I hw =>
 wpAny_mono (h pins s σ H D (I.wish _) hw) (fun _ _ q => q.unwish) fun _ _ z => False.elim z
end
section
variable {X : Cx} {st : Stmt} {rest : List Stmt} {t u : TS} {e : Expr} {te : TE} {pos : Pos}
def BZ : TS := fun D σ H => D.nx σ H
def Hy (t u : TS) : TS := fun D σ H => t { D with nx := u D } σ H
theorem aM : PSs X [] BZ := fun _ _ σ H _ I h => wpAny_execs_nil ⟨σ, H, I, h⟩
theorem aj (h1 : PS X st t) (h2 : PSs X rest u) : PSs X (st :: rest) (Hy t u) := by
 intro pins s σ H D I h
 refine wpAny_execs_cons (thn (h1 pins s σ H { D with nx := u D } I h) fun f s1 q => ?_)
 cases f with
 | next =>
  obtain ⟨σ', H', I', q⟩ := q
  exact h2 pins s1 σ' H' D I' q
 | ret v => exact q
 | brk => exact q
 | cont => exact q
theorem aq (h1 : PS X st t) : PSs X [st] t := by
 intro pins s σ H D I h
 refine wpAny_execs_cons (thn (h1 pins s σ H D I h) fun f s1 q => ?_)
 cases f with
 | next => exact wpAny_execs_nil q
 | ret v => exact q
 | brk => exact q
 | cont => exact q
theorem Inv.quiet {pins : List (Addr × Obj)} {σ : St} {H : Hp} {s : Shared} (I : Inv X pins σ H s) : interactive X.env = false := by simp [interactive, I.ok.kind]
def Gr (te : TE) : TS := fun D σ H => te σ H fun _ H1 => D.nx σ H1
theorem bz (he : PE X e te) (hs : swapsWith e none pos.line X.env = pure false := by rfl) : PS X (.Expr e pos) (Gr te) := by
 intro pins s σ H D I h
 exact wpAny_Expr_any (thn (he pins s σ H _ I h) fun v s1 ⟨x, H1, I1, r1, q1⟩ => ⟨σ, H1, I1, q1⟩) I.quiet hs
def Hz (te : TE) : TS := fun D σ H => te σ H D.rt
theorem aB (he : PE X e te) : PS X (.Return (some e) pos) (Hz te) := by
 intro pins s σ H D I h
 exact wpAny_Return_some (thn (he pins s σ H _ I h) fun v s1 ⟨x, H1, I1, r1, q1⟩ => ⟨x, σ, H1, I1, r1, q1⟩)
def Hn (c : TT) (t u : TS) : TS := fun D σ H => c σ H fun b H1 => if b = true then t D σ H1 else u D σ H1
theorem aW {c : Expr} {a b : List Stmt} {tc : TT} (hc : PT X c tc) (ha : PSs X a t) (hb : PSs X b u) : PS X (.If c a b pos) (Hn tc t u) := by
 intro pins s σ H D I h
 refine wpAny_If (thn (hc pins s σ H _ I h) fun d s1 ⟨H1, I1, q1⟩ => ?_)
 cases d with
 | true => exact ha pins s1 σ H1 D I1 q1
 | false => exact hb pins s1 σ H1 D I1 q1
def Gd : TS := fun _ _ _ => False
theorem cO : PS X st Gd := fun _ _ _ _ _ _ h => h.elim
end
abbrev TG := V → St → Hp → (St → Hp → Prop) → Prop
abbrev TGs := List V → St → Hp → (St → Hp → Prop) → Prop
def PG (X : Cx) (target : Expr) (t : TG) : Prop :=
 ∀ (pins : List (Addr × Obj)) (s : Shared) (σ : St) (H : Hp) (v : V) (u : Value) (Q : St → Hp → Prop), Inv X pins σ H s → RelV v u → t v σ H Q →
  wpAny (model X.prog X.w) X.A (assign target X.env u) (fun _ s' => ∃ σ' H', Inv X pins σ' H' s' ∧ Q σ' H') X.xe s
def PGs (X : Cx) (ts : List Expr) (t : TGs) : Prop :=
 ∀ (pins : List (Addr × Obj)) (s : Shared) (σ : St) (H : Hp) (vs : List V) (us : List Value) (Q : St → Hp → Prop), Inv X pins σ H s → Vals vs us → t vs σ H Q →
  wpAny (model X.prog X.w) X.A (assignInOrder ((assignEach ts X.env).map (·.2)) us) (fun _ s' => ∃ σ' H', Inv X pins σ' H' s' ∧ Q σ' H') X.xe s
abbrev Gb := V → V → V → Hp → (Hp → Prop) → Prop
def G5 (X : Cx) (t : Gb) : Prop :=
 ∀ (pins : List (Addr × Obj)) (s : Shared) (σ : St) (H : Hp) (o i v : V) (ov iv u : Value) (Q : Hp → Prop), Inv X pins σ H s → RelV o ov → RelV i iv → RelV v u → t o i v H Q →
  wpAny (model X.prog X.w) X.A (setItem ov iv u) (fun _ s' => ∃ H', Inv X pins σ H' s' ∧ Q H') X.xe s
section
variable {X : Cx} {pos : Pos}
def qj (i : Nat) : TG := fun v σ H Q => Q (σ.set i (some v)) H
theorem bw {i : Nat} {x : Str} (hN : X.N.Nodup) (hi : X.N[i]? = some x) (hx : Loc X.env.scope x) (hf : X.fn x = true ∨ X.env.scope.names.lookup x = some .local := by first | exact .inl rfl | exact .inr rfl | assumption) : PG X (.Name x pos) (qj i) := by
 intro pins s σ H v u Q I r h
 exact wpAny_assign_Name (qJ I hN hi hx r (fun s' I' => ⟨_, H, I', h⟩) hf)
def Hb : TGs := fun vs σ H Q => vs = [] ∧ Q σ H
def Bc (t : TG) (u : TGs) : TGs := fun vs σ H Q => ∃ v r, vs = v :: r ∧ t v σ H fun σ' H' => u r σ' H' Q
theorem gr : PGs X [] Hb := by
 intro pins s σ H vs us Q I r h
 obtain ⟨e, h⟩ := h
 subst e
 cases r
 exact assignInOrder_nil ⟨σ, H, I, h⟩
theorem bQ {e : Expr} {es : List Expr} {t : TG} {u : TGs} (h1 : PG X e t) (h2 : PGs X es u)
  (hs : (assignEach (e :: es) X.env).map (·.2) = assign e X.env :: (assignEach es X.env).map (·.2) := by rfl) : PGs X (e :: es) (Bc t u) := by
 intro pins s σ H vs us Q I r h
 obtain ⟨v, vr, e1, h⟩ := h
 subst e1
 cases r with
 | cons r rr =>
  rw [hs]
  refine assignInOrder_cons (thn (h1 pins s σ H _ _ _ I r h) fun _ s1 ⟨σ1, H1, I1, q1⟩ => ?_)
  exact h2 pins s1 σ1 H1 _ _ Q I1 rr q1
def GK (K : PySem.W.Frag) (n : Nat) (t : TGs) : TG := fun v σ H Q => ∃ a xs, v = .ref a ∧ SqT K H a xs ∧ xs.length = n ∧ t xs σ H Q
theorem ju {es : List Expr} {k : Nat} {t : TGs} {n : Nat} (hc : X.calm = true) (h : PGs X es t)
  (hn : (assignEach es X.env).length = n := by rfl) (hst : (assignEach es X.env).findIdx? (·.1) = none := by rfl) : PG X (.Tuple es k pos) (GK X.K n t) := by
 intro pins s σ H v u Q I r hw
 obtain ⟨a, xs, e1, hq, hl, hw⟩ := hw
 subst e1
 cases r
 obtain ⟨its, rv, ht, hz⟩ := I.tuple hq
 refine assign_Tuple_tuple (I.ok.hd hc) ht (by simp [hn, ← hl, rv.length]) hst fun h' hx => ?_
 have I1 : Inv X pins σ H { s with heap := h' } := I.kept (t' := s.toks) fun b o e => hx b o (Nat.ne_of_lt (Heap.lt_size e)) e
 exact h pins _ σ H xs _ Q I1 (by simpa using rv) hw
def Hk (to ti : TE) (t : Gb) : TG := fun v σ H Q => to σ H fun o H1 => ti σ H1 fun i H2 => t o i v H2 fun H3 => Q σ H3
theorem uU {o i : Expr} {to ti : TE} {t : Gb} (ho : PE X o to) (hi : PE X i ti) (hs : G5 X t)
  (ha : ∀ v, assign (.Subscript o i pos) X.env v = (do
   let ov ← holding [v] (eval o X.env)
   let iv ← holding [v, ov] (eval i X.env)
   standAt pos
   holding [v, ov, iv] (setItem ov iv v)
   release [v, ov, iv] []) := by intro _; rfl) : PG X (.Subscript o i pos) (Hk to ti t) := by
 intro pins s σ H v u Q I r h
 rw [ha]
 refine wpAny_bind (wpAny_holding (thn (ho pins s σ H _ I h) fun ov s1 ⟨x, H1, I1, r1, q1⟩ => ?_))
 refine wpAny_bind (wpAny_holding (thn (hi pins s1 σ H1 _ I1 q1) fun iv s2 ⟨y, H2, I2, r2, q2⟩ => ?_))
 refine wpAny_bind (wpAny_standAt (wpAny_bind (wpAny_holding (thn (hs pins s2 σ H2 x y v ov iv u _ I2 r1 r2 r q2) fun _ s3 ⟨H3, I3, q3⟩ => ?_))))
 exact wpAny_release ⟨σ, H3, I3, q3⟩
def Dd (te : TE) (g : TG) : TS := fun D σ H => te σ H fun x H1 => g x σ H1 D.nx
theorem oM {tg e : Expr} {te : TE} {g : TG} (he : PE X e te) (hg : PG X tg g) (hs : swapsWithSole [tg] e pos.line X.env = pure false := by rfl) (hw : swappedStores [tg] e X.env = pure none := by rfl)
  (h1 : (assignEach [tg] X.env).map (·.2) = [assign tg X.env] := by rfl) : PS X (.Assign [tg] e pos) (Dd te g) := by
 intro pins s σ H D I h
 refine wpAny_Assign_stores (thn (he pins s σ H _ I h) fun v s1 ⟨x, H1, I1, r1, q1⟩ => ?_) hs hw
 rw [h1]
 exact thn (hg pins s1 σ H1 x v _ I1 r1 q1) fun _ s2 q => q
theorem aF {i : Nat} {x : Str} {e : Expr} {te : TE} {pos' : Pos} (hN : X.N.Nodup) (hi : X.N[i]? = some x) (hx : Loc X.env.scope x) (he : PE X e te) (hs : swapsWith e (some (.Name x pos')) pos.line X.env = pure false := by rfl) (hf : X.fn x = true ∨ X.env.scope.names.lookup x = some .local := by first | exact .inl rfl | exact .inr rfl | assumption) :
  PS X (.Assign [.Name x pos'] e pos) (Dd te (qj i)) := by
 intro pins s σ H D I h
 refine wpAny_Assign_Name (thn (he pins s σ H _ I h) fun v s1 ⟨y, H1, I1, r1, q1⟩ => ?_) hs
 exact qJ I1 hN hi hx r1 (fun s2 I2 => ⟨_, H1, I2, q1⟩) hf
end
section
variable {X : Cx} {pos : Pos}
def EY (c : TT) (tb : TS) : TS := fun D σ H => ∃ W : Nat → St → Hp → Prop, (∃ m, W m σ H) ∧ ∀ m σ H, W m σ H →
 c σ H fun b H1 => if b = true then ∃ N : St → Hp → Prop, (∀ σ' H', N σ' H' → ∃ m', m' < m ∧ W m' σ' H') ∧ tb { D with nx := N, ct := N, bk := D.nx } σ H1 else D.nx σ H1
theorem jl {c : Expr} {body : List Stmt} {tc : TT} {tb : TS} (hp : PassesOwn (model X.prog X.w) X.A X.env X.xe) (hc : PT X c tc) (hb : PSs X body tb) : PS X (.While c body [] pos) (EY tc tb) := by
 intro pins s σ H D I h
 obtain ⟨W, ⟨m0, w0⟩, turn⟩ := h
 refine wpAny_While (codeAny_whileLoop (fun n s' => ∃ σ' H', Inv X pins σ' H' s' ∧ W n σ' H') ?_ m0 ⟨σ, H, I, w0⟩)
 rintro n s1 ⟨σ1, H1, I1, w1⟩
 refine wpAny_passesOwn hp (thn (hc pins s1 σ1 H1 _ I1 (turn n σ1 H1 w1)) fun b s2 ⟨H2, I2, q2⟩ => ?_)
 cases b with
 | true =>
  obtain ⟨N, hN, q2⟩ := q2
  rw [if_pos rfl]
  refine wpAny_passesOwn hp (thn (hb pins s2 σ1 H2 _ I2 q2) fun f s3 q3 => ?_)
  cases f with
  | next =>
   obtain ⟨σ3, H3, I3, n3⟩ := q3
   obtain ⟨m', hm, w3⟩ := hN σ3 H3 n3
   exact ⟨m', hm, σ3, H3, I3, w3⟩
  | cont =>
   obtain ⟨σ3, H3, I3, n3⟩ := q3
   obtain ⟨m', hm, w3⟩ := hN σ3 H3 n3
   exact ⟨m', hm, σ3, H3, I3, w3⟩
  | brk => exact q3
  | ret v => exact q3
 | false =>
  rw [if_neg Bool.false_ne_true]
  exact wpAny_execs_nil ⟨σ1, H2, I2, q2⟩
end
structure It where
 go : Nat → Hp → Prop
 yld : Nat → Hp → V → Hp → Prop
 stop : Nat → Hp → Prop
def iB (X : Cx) (pins : List (Addr × Obj)) (H : Hp) (b : Addr) : Prop :=
 H b = none ∧ b ≠ X.env.locals ∧ b ∉ X.fs ∧ (b ∈ X.ex ∨ X.s₀.heap.objs.size ≤ b) ∧ (∀ x c, X.env.cells.lookup x = some c → c ≠ b) ∧ ∀ p ∈ X.pn ++ pins, p.1 ≠ b
theorem Inv.fpOk {X : Cx} {pins : List (Addr × Obj)} {σ : St} {H H' : Hp} {s : Shared} {b : Addr} (I : Inv X pins σ H s) (hb : s.heap.objs.size ≤ b) (hn : H' b = none) : iB X pins H' b := by
 refine ⟨hn, Nat.ne_of_gt (Nat.lt_of_lt_of_le I.lt hb), I.nofs hb, .inr (Nat.le_trans I.sz hb), fun x c e z => ?_, fun p hp z => ?_⟩
 ·obtain ⟨v, q⟩ := I.cell x c e
  exact absurd (Nat.lt_of_lt_of_le q.lt (by rw [z]; exact hb)) (Nat.lt_irrefl _)
 ·exact absurd (Nat.lt_of_lt_of_le (Heap.lt_size (I.pin p hp).1) (by rw [z]; exact hb)) (Nat.lt_irrefl _)
structure Turn (P : Program) (w : World) (K : PySem.W.Frag) (tg : Expr) (J : It) (fp : List Addr) (it : Addr) (tn : Nat → Heap → Prop) : Prop where
 mem : it ∈ fp
 obj : ∀ i h, tn i h → ∀ b ∈ fp, ∃ o, h.get? b = some o ∧ ∀ v, o.data ≠ .cell v
 keep : ∀ i h h', tn i h → (∀ b ∈ fp, ∀ o, h.get? b = some o → h'.get? b = some o) → tn i h'
 item : ∀ (X : Cx), X.prog = P → X.w = w → X.K = K → X.calm = true → ∀ (i : Nat) (pins : List (Addr × Obj)) (s : Shared) (σ : St) (H : Hp) (E : Value → Shared → Prop), Inv X pins σ H s → (∀ b ∈ fp, iB X pins H b) → tn i s.heap → J.go i H →
  wpAny (model P w) X.A (pyNext (.ref it)) (fun r s1 => ∃ u, r = some u ∧
   wpAny (model P w) X.A (letOwnedTupleGo tg (.ref it) u) (fun _ s2 => ∃ x H', Inv X pins σ H' s2 ∧ RelV x u ∧ J.yld i H x H' ∧ tn (i + 1) s2.heap ∧ ∀ b ∈ fp, H' b = none) E s1) E s
 done : ∀ (X : Cx), X.prog = P → X.w = w → X.K = K → X.calm = true → ∀ (i : Nat) (pins : List (Addr × Obj)) (s : Shared) (σ : St) (H : Hp) (E : Value → Shared → Prop), Inv X pins σ H s → (∀ b ∈ fp, iB X pins H b) → tn i s.heap → J.stop i H →
  wpAny (model P w) X.A (pyNext (.ref it)) (fun r s1 => r = none ∧ Inv X pins σ H s1) E s
 self : ∀ (A : Around) (i : Nat) (s : Shared) (Q : Value → Shared → Prop) (E : Value → Shared → Prop), tn i s.heap → Q (.ref it) s → wpAny (model P w) A (pyIter (.ref it)) Q E s
abbrev TI := St → Hp → (It → Hp → Prop) → Prop
def PIE (X : Cx) (pins : List (Addr × Obj)) (σ : St) (tg : Expr) (R : It → Hp → Prop) (itv : Value) (s2 : Shared) : Prop :=
 ∃ (it : Addr) (fp : List Addr) (tn : Nat → Heap → Prop) (J : It) (H' : Hp), itv = .ref it ∧ Inv X pins σ H' s2 ∧ Turn X.prog X.w X.K tg J fp it tn ∧ tn 0 s2.heap ∧ (∀ b ∈ fp, iB X pins H' b) ∧ R J H'
def PI (X : Cx) (tg iter : Expr) (wi : TI) : Prop :=
 ∀ (pins : List (Addr × Obj)) (s : Shared) (σ : St) (H : Hp) (R : It → Hp → Prop), Inv X pins σ H s → wi σ H R →
  wpAny (model X.prog X.w) X.A (eval iter X.env) (fun v s1 => wpAny (model X.prog X.w) X.A (pyIter v) (PIE X pins σ tg R) X.xe s1) X.xe s
theorem yR {M : Model} {A : Around} {E : Value → Shared → Prop} {s : Shared} {tg : Expr} {it : Addr} {u : Value} {o : Obj} {n : String} {vs : Array Value} {Q : Unit → Shared → Prop} (ho : s.heap.get? it = some o) (hc : o.cls = .type n) (hd : o.data = .fields vs)
    (hn : ["enumerate", "zip", "dict_itemiterator", "dict_reverseitemiterator", "odict_iterator", "itertools.zip_longest", "itertools.pairwise"].contains n = false) (hQ : Q () s) : wpAny M A (letOwnedTupleGo tg (.ref it) u) Q E s := by
  unfold letOwnedTupleGo
  cases tg <;> first
    | exact wpAny_pure hQ
    | (cases u <;> first
        | exact wpAny_pure hQ
        | (refine wpAny_bind (wpAny_load ho ?_)
           rw [hc, hd]
           show wpAny M A (if (["enumerate", "zip", "dict_itemiterator", "dict_reverseitemiterator", "odict_iterator", "itertools.zip_longest", "itertools.pairwise"].contains n && vs[0]? == some (rawInt _)) = true then _ else _) Q E s
           rw [if_neg (by intro h; rw [hn, Bool.false_and] at h; cases h)]
           exact wpAny_pure hQ))
def Itl (K : PySem.W.Frag) (a : Addr) : It :=
 ⟨fun i H => ∃ xs x, SqL K H a xs ∧ xs[i]? = some x, fun i H x H' => H' = H ∧ ∀ xs, SqL K H a xs → xs[i]? = some x, fun i H => ∃ xs, SqL K H a xs ∧ xs.length ≤ i⟩
def Itr (lo : Int) (n : Nat) : It := ⟨fun i _ => i < n, fun i H x H' => H' = H ∧ x = .int (lo + i), fun i _ => n ≤ i⟩
theorem zT {P : Program} {w : World} {K : PySem.W.Frag} {tg : Expr} (a it : Addr) : Turn P w K tg (Itl K a) [it] it (fun i h => h.IsListIter it a i) where
 mem := by simp
 obj := fun i h st b hb => by
  have e : b = it := by simpa using hb
  subst e
  obtain ⟨o, e, c, d⟩ := st
  exact ⟨o, e, fun v z => by rw [d] at z; cases z⟩
 keep := fun i h h' st k => st.at fun o e => k it (by simp) o e
 item := by
  intro X hP hw hK hc i pins s σ H E I hf st hg
  subst hP hw hK
  obtain ⟨xs, x, hq, hx⟩ := hg
  obtain ⟨its, rv, p, hz⟩ := I.list hq
  obtain ⟨u, hu, ru⟩ := rv.get hx
  obtain ⟨f0, f1, f2, f3, f4, f5⟩ := hf it (by simp)
  refine wpAny_pyNext_list_item st p.isList (x := u) (by simpa using hu) fun h' st' sb => ?_
  have I1 : Inv X pins σ H { s with heap := h' } := I.turned (t' := s.toks) (fun b o hb e => (sb.2 b hb).trans e) f0 f1 f3 f4 f5
  obtain ⟨o, e, c, d⟩ := id st'
  exact ⟨u, rfl, yR (s := { s with heap := h' }) e c d (by decide) ⟨x, H, I1, ru, ⟨rfl, fun ys hy => by rw [I.list_inj hy hq]; exact hx⟩, st', fun b hb => (hf b hb).1⟩⟩
 done := by
  intro X hP hw hK hc i pins s σ H E I hf st hg
  subst hP hw hK
  obtain ⟨xs, hq, hx⟩ := hg
  obtain ⟨its, rv, p, hz⟩ := I.list hq
  obtain ⟨f0, f1, f2, f3, f4, f5⟩ := hf it (by simp)
  have hl := rv.length
  exact wpAny_pyNext_list_end (I.ok.hd hc) st p.isList (by simp; omega) fun h' eb => ⟨rfl, I.turned (t' := s.toks) (fun b o hb e => eb b o hb e) f0 f1 f3 f4 f5⟩
 self := fun _ _ _ _ _ st h => wpAny_pyIter_listiter st h
theorem yp {P : Program} {w : World} {K : PySem.W.Frag} {tg : Expr} (it : Addr) (lo : Int) (n : Nat) : Turn P w K tg (Itr lo n) [it] it (fun i h => IsRangeIter h it (lo + (i : Nat) * 1) ((n : Int) - (i : Nat)) 1) where
 mem := by simp
 obj := fun i h st b hb => by
  have e : b = it := by simpa using hb
  subst e
  exact ⟨_, st, fun v z => by
   have z' : Data.fields _ = Data.cell v := z
   cases z'⟩
 keep := fun i h h' st k => k it (by simp) _ st
 item := by
  intro X hP hw hK hc i pins s σ H E I hf st hg
  subst hP hw hK
  obtain ⟨f0, f1, f2, f3, f4, f5⟩ := hf it (by simp)
  have W := Walks.range (prog := X.prog) (w := X.w) (I.ok.hd hc) it lo 1 n
  refine W.item i s _ _ hg st fun v h' tk hv st' kk => ?_
  obtain ⟨t, rfl⟩ := hv
  have I1 : Inv X pins σ H { s with heap := h', toks := tk } := I.turned (fun b o hb e => kk b o (by simpa using hb) e) f0 f1 f3 f4 f5
  refine ⟨_, rfl, yR (s := { s with heap := h', toks := tk }) (n := "range_iterator") st' rfl rfl (by decide) ⟨.int (lo + i), H, I1, ⟨t, ?_⟩, ⟨rfl, rfl⟩, st', fun b hb => (hf b hb).1⟩⟩
  rw [Int.mul_one]
 done := by
  intro X hP hw hK hc i pins s σ H E I hf st hg
  subst hP hw hK
  obtain ⟨f0, f1, f2, f3, f4, f5⟩ := hf it (by simp)
  exact wpAny_pyNext_range_end (I.ok.hd hc) st (by have : n ≤ i := hg; omega) fun h' eb => ⟨rfl, I.turned (t' := s.toks) (fun b o hb e => eb b o hb e) f0 f1 f3 f4 f5⟩
 self := fun _ _ _ _ _ st h => wpAny_pyIter_rangeiter st h
end L2
namespace L2
open PySem PySem.Spec PyProof.Rows
section
variable {X : Cx} {tg : Expr}
def Gs (K : PySem.W.Frag) (tl : TE) : TI := fun σ H R => tl σ H fun x H1 => ∃ a, x = .ref a ∧ (∃ xs, SqL K H1 a xs) ∧ R (Itl K a) H1
theorem dw {l : Expr} {tl : TE} (hl : PE X l tl) : PI X tg l (Gs X.K tl) := by
 intro pins s σ H R I h
 refine thn (hl pins s σ H _ I h) fun v s1 ⟨x, H1, I1, r1, q1⟩ => ?_
 obtain ⟨a, e, ⟨xs, hq⟩, q⟩ := q1
 subst e
 cases r1
 obtain ⟨its, rv, p, hz⟩ := I1.list hq
 refine wpAny_pyIter_list p.isList ?_
 refine ⟨s1.heap.objs.size, [s1.heap.objs.size], _, _, H1, rfl, I1.kept (t' := s1.toks) fun b o e => Heap.get?_push_of_some _ e, zT a _, ⟨_, Heap.get?_push_size _ rfl, rfl, rfl⟩, fun b hb => ?_, q⟩
 have e : b = s1.heap.objs.size := by simpa using hb
 subst e
 exact I1.fpOk (Nat.le_refl _) (I1.hok.fresh (Nat.le_refl _))
theorem vH {pins : List (Addr × Obj)} {σ : St} {H : Hp} {s : Shared} {R : It → Hp → Prop} {E : Value → Shared → Prop} {lo hi : Int} {t u v : Tok} {tk : Nat} (I : Inv X pins σ H s) (h1 : -(2 ^ 62) ≤ lo) (h2 : lo < 2 ^ 62) (h3 : -(2 ^ 62) ≤ hi) (h4 : hi < 2 ^ 62)
  (q : R (Itr lo (hi - lo).toNat) H) : wpAny (model X.prog X.w) X.A (pyIter (.ref s.heap.objs.size)) (PIE X pins σ tg R) E { s with heap := s.heap.push { cls := .type "range", data := .fields #[.int lo t, .int hi u, .int 1 v] }, toks := tk } := by
 refine wpAny_pyIter_range (IsRange.new ..) (small_one h1 h2 h3 h4) ?_
 have I1 : Inv X pins σ H { s with heap := s.heap.push { cls := .type "range", data := .fields #[.int lo t, .int hi u, .int 1 v] }, toks := tk } := I.kept fun b o e => Heap.get?_push_of_some _ e
 refine ⟨(s.heap.push { cls := .type "range", data := .fields #[.int lo t, .int hi u, .int 1 v] }).objs.size, [(s.heap.push { cls := .type "range", data := .fields #[.int lo t, .int hi u, .int 1 v] }).objs.size], _, _, H, rfl,
  I1.kept (t' := tk) fun b o e => Heap.get?_push_of_some _ e, yp _ lo (hi - lo).toNat, ?_, fun b hb => ?_, q⟩
 ·have e1 : lo + ((0 : Nat) : Int) * 1 = lo := by simp
  have e2 : (((hi - lo).toNat : Nat) : Int) - ((0 : Nat) : Int) = Builtin.Range.rangeSize lo hi 1 := by rw [rangeSize_one]; split <;> omega
  show IsRangeIter _ _ (lo + ((0 : Nat) : Int) * 1) ((((hi - lo).toNat : Nat) : Int) - ((0 : Nat) : Int)) 1
  rw [e1, e2]
  exact Heap.get?_push_size _ rfl
 ·have e : b = (s.heap.push { cls := .type "range", data := .fields #[.int lo t, .int hi u, .int 1 v] }).objs.size := by simpa using hb
  subst e
  exact I1.fpOk (Nat.le_refl _) (I1.hok.fresh (Nat.le_refl _))
def GC (ta : TA) : TI := fun σ H R => ta σ H fun vs H1 => ∃ j : Int, vs = [.int j] ∧ -(2 ^ 62) ≤ j ∧ j < 2 ^ 62 ∧ R (Itr 0 j.toNat) H1
def GF (ta : TA) : TI := fun σ H R => ta σ H fun vs H1 => ∃ i j : Int, vs = [.int i, .int j] ∧ (-(2 ^ 62) ≤ i ∧ i < 2 ^ 62 ∧ -(2 ^ 62) ≤ j ∧ j < 2 ^ 62) ∧ R (Itr i (j - i).toNat) H1
theorem jX {a : Expr} {ta : TA} {p pos : Pos} (hg : Gl X "range") (hm : X.mg "range" = none) (ha : PA X [a] ta) (hs : starEach [a] X.env = [(false, eval a X.env)] := by rfl) : PI X tg (.Call (.Name "range" p) [a] [] pos) (GC ta) := by
 intro pins s σ H R I h
 refine Call_ (dC I hg hm boot_range (PyProof.Rows.callWith_type1 (thn (ha pos pins s σ H _ I h) fun us s1 ⟨vs, H1, I1, r1, q1⟩ => ?_) hs rfl))
 obtain ⟨j, e, q1, q2, q⟩ := q1
 subst e
 cases r1 with
 | cons r rr =>
  cases rr
  obtain ⟨t, rfl⟩ := r
  exact call_range_1 (vH I1 (by omega) (by omega) q1 q2 (by simpa using q))
theorem Ae {a b : Expr} {ta : TA} {p pos : Pos} (hg : Gl X "range") (hm : X.mg "range" = none) (ha : PA X [a, b] ta) (hs : starEach [a, b] X.env = [(false, eval a X.env), (false, eval b X.env)] := by rfl) (hs2 : starEach [b] X.env = [(false, eval b X.env)] := by rfl) :
  PI X tg (.Call (.Name "range" p) [a, b] [] pos) (GF ta) := by
 intro pins s σ H R I h
 refine Call_ (dC I hg hm boot_range (PyProof.Rows.callWith_type1 (thn (ha pos pins s σ H _ I h) fun us s1 ⟨vs, H1, I1, r1, q1⟩ => ?_) (by rw [hs, hs2]) (by rw [hs2]; rfl)))
 obtain ⟨i, j, e, ⟨q1, q2, q3, q4⟩, q⟩ := q1
 subst e
 cases r1 with
 | cons r rr =>
  cases rr with
  | cons r' rr =>
   cases rr
   obtain ⟨t, rfl⟩ := r
   obtain ⟨t', rfl⟩ := r'
   exact call_range_2 (vH I1 q1 q2 q3 q4 q)
def Hh (wi : TI) (g : TG) (tb : TS) : TS := fun D σ H => wi σ H fun J H1 => ∃ W : Nat → Nat → St → Hp → Prop, (∃ m, W 0 m σ H1) ∧ ∀ i m σ H, W i m σ H →
 (J.stop i H ∧ D.nx σ H) ∨ (J.go i H ∧ ∃ N : St → Hp → Prop, (∀ σ' H', N σ' H' → ∃ m', m' < m ∧ W (i + 1) m' σ' H') ∧ ∀ x H', J.yld i H x H' → g x σ H' fun σ2 H2 => tb { D with nx := N, ct := N, bk := D.nx } σ2 H2)
def oU (fp : List Addr) (h : Heap) : List (Addr × Obj) := fp.filterMap fun b => (h.get? b).map fun o => (b, o)
theorem dU {fp : List Addr} {h : Heap} {b : Addr} {o : Obj} (hb : b ∈ fp) (e : h.get? b = some o) : (b, o) ∈ oU fp h := List.mem_filterMap.mpr ⟨b, hb, by rw [e]; rfl⟩
theorem zX {fp : List Addr} {h : Heap} {p : Addr × Obj} (hp : p ∈ oU fp h) : p.1 ∈ fp ∧ h.get? p.1 = some p.2 := by
 obtain ⟨b, hb, e⟩ := List.mem_filterMap.mp hp
 cases q : h.get? b with
 | none => rw [q] at e; cases e
 | some o =>
  rw [q] at e
  have e' : (b, o) = p := Option.some.inj e
  subst e'
  exact ⟨hb, q⟩
theorem Inv.pinned {pins : List (Addr × Obj)} {σ : St} {H : Hp} {s : Shared} {fp : List Addr} (I : Inv X pins σ H s) (hf : ∀ b ∈ fp, iB X pins H b) (ho : ∀ b ∈ fp, ∃ o, s.heap.get? b = some o ∧ ∀ v, o.data ≠ .cell v) : Inv X (pins ++ oU fp s.heap) σ H s :=
 I.pins_of fun p hp => (List.mem_append.mp hp).elim (fun z => I.pin p (List.mem_append_right _ z)) fun z => by
  obtain ⟨hb, e⟩ := zX z
  obtain ⟨f0, f1, f2, _⟩ := hf p.1 hb
  obtain ⟨o, e', d⟩ := ho p.1 hb
  rw [e] at e'; cases e'
  exact ⟨e, f0, f1, f2, d⟩
theorem Inv.unpinned {pins pl : List (Addr × Obj)} {σ : St} {H : Hp} {s : Shared} (I : Inv X (pins ++ pl) σ H s) : Inv X pins σ H s := I.pins_of fun p hp => I.pin p (List.mem_append_right _ (List.mem_append_left _ hp))
theorem cB {iter : Expr} {body : List Stmt} {wi : TI} {g : TG} {tb : TS} {pos : Pos} (hp : PassesOwn (model X.prog X.w) X.A X.env X.xe) (hc : X.calm = true) (hi : PI X tg iter wi) (hg : PG X tg g) (hb : PSs X body tb)
  (hs : ∀ x, foldedSetIterable iter X.env x = pure x := by intro _; rfl) : PS X (.For tg iter body [] pos) (Hh wi g tb) := by
 intro pins s σ H D I h
 refine wpAny_For (thn (hi pins s σ H _ I h) fun v s1 h1 => thn h1 fun itv s2 h2 => ?_) hs
 obtain ⟨it, fp, tn, J, H2, e, I2, T, st2, f2, W, ⟨m0, w0⟩, turn⟩ := h2
 subst e
 have stat : ∀ {H' : Hp}, (∀ b ∈ fp, H' b = none) → ∀ b ∈ fp, iB X pins H' b := fun hn b hb => ⟨hn b hb, (f2 b hb).2⟩
 refine codeAny_forLoop_any (fun n s' => ∃ i σ' H', Inv X pins σ' H' s' ∧ tn i s'.heap ∧ (∀ b ∈ fp, H' b = none) ∧ W i n σ' H') ?_ m0 ⟨0, σ, H2, I2, st2, fun b hb => (f2 b hb).1, w0⟩
 rintro n s3 ⟨i, σ3, H3, I3, st3, fr3, w3⟩
 rcases turn i n σ3 H3 w3 with ⟨stop, qn⟩ | ⟨go, N, hN, step⟩
 ·refine wpAny_passesOwn hp (thn (T.done X rfl rfl rfl hc i pins s3 σ3 H3 X.xe I3 (stat fr3) st3 stop) fun r s4 ⟨hr, I4⟩ => ?_)
  subst hr
  exact wpAny_execs_nil ⟨σ3, H3, I4, qn⟩
 ·refine wpAny_passesOwn hp (thn (T.item X rfl rfl rfl hc i pins s3 σ3 H3 X.xe I3 (stat fr3) st3 go) fun r s4 ⟨u, hr, h4⟩ => ?_)
  subst hr
  refine wpAny_passesOwn hp (thn h4 fun _ s5 ⟨x, H5, I5, r5, y5, st5, fr5⟩ => ?_)
  have I5' := I5.pinned (stat fr5) (T.obj _ _ st5)
  refine wpAny_passesOwn hp (thn (hg _ s5 σ3 H5 x u _ I5' r5 (step x H5 y5)) fun _ s6 ⟨σ6, H6, I6, q6⟩ => ?_)
  refine wpAny_passesOwn hp (thn (hb _ s6 σ6 H6 _ I6 q6) fun f s7 q7 => ?_)
  have again : ∀ {σ7 : St} {H7 : Hp}, Inv X (pins ++ oU fp s5.heap) σ7 H7 s7 → N σ7 H7 → ∃ m, m < n ∧ ∃ i σ' H', Inv X pins σ' H' s7 ∧ tn i s7.heap ∧ (∀ b ∈ fp, H' b = none) ∧ W i m σ' H' := fun {σ7 H7} I7 n7 => by
   obtain ⟨m', hm, w7⟩ := hN σ7 H7 n7
   refine ⟨m', hm, i + 1, σ7, H7, I7.unpinned, T.keep _ _ _ st5 fun b hb o e => (I7.pin (b, o) (List.mem_append_right _ (List.mem_append_right _ (dU hb e)))).1, fun b hb => ?_, w7⟩
   obtain ⟨o, e, d⟩ := T.obj _ _ st5 b hb
   exact (I7.pin (b, o) (List.mem_append_right _ (List.mem_append_right _ (dU hb e)))).2.1
  cases f with
  | next => obtain ⟨σ7, H7, I7, n7⟩ := q7; exact again I7 n7
  | cont => obtain ⟨σ7, H7, I7, n7⟩ := q7; exact again I7 n7
  | brk => obtain ⟨σ7, H7, I7, q7⟩ := q7; exact ⟨σ7, H7, I7.unpinned, q7⟩
  | ret v => obtain ⟨x7, σ7, H7, I7, r7, q7⟩ := q7; exact ⟨x7, σ7, H7, I7.unpinned, r7, q7⟩
end
theorem dG {K : PySem.W.Frag} {a : Addr} {xs : List V} {g : TG} {tb : TS} {D : Ends} {σ : St} {H : Hp} (Pv : Nat → St → Hp → Prop) (h0 : Pv 0 σ H) (hl : ∀ i σ H, i ≤ xs.length → Pv i σ H → SqL K H a xs)
  (hs : ∀ i x σ H, xs[i]? = some x → Pv i σ H → g x σ H fun σ2 H2 => tb { D with nx := Pv (i + 1), ct := Pv (i + 1), bk := D.nx } σ2 H2) (hd : ∀ σ H, Pv xs.length σ H → D.nx σ H) :
  ∃ W : Nat → Nat → St → Hp → Prop, (∃ m, W 0 m σ H) ∧ ∀ i m σ H, W i m σ H →
   ((Itl K a).stop i H ∧ D.nx σ H) ∨ ((Itl K a).go i H ∧ ∃ N : St → Hp → Prop, (∀ σ' H', N σ' H' → ∃ m', m' < m ∧ W (i + 1) m' σ' H') ∧ ∀ x H', (Itl K a).yld i H x H' → g x σ H' fun σ2 H2 => tb { D with nx := N, ct := N, bk := D.nx } σ2 H2) := by
 refine ⟨fun i m σ H => m = xs.length - i ∧ i ≤ xs.length ∧ Pv i σ H, ⟨xs.length, by simp, Nat.zero_le _, h0⟩, ?_⟩
 rintro i m σ H ⟨rfl, hi, p⟩
 have q := hl i σ H hi p
 by_cases hlt : i < xs.length
 ·refine .inr ⟨⟨xs, xs[i], q, by simp [hlt]⟩, Pv (i + 1), fun σ' H' p' => ⟨xs.length - (i + 1), by omega, rfl, hlt, p'⟩, fun x H' y => ?_⟩
  obtain ⟨e, y⟩ := y
  subst e
  exact hs i x σ _ (y xs q) p
 ·have e : i = xs.length := by omega
  subst e
  exact .inl ⟨⟨xs, q, Nat.le_refl _⟩, hd σ H p⟩
theorem nF {lo : Int} {n : Nat} {g : TG} {tb : TS} {D : Ends} {σ : St} {H : Hp} (Pv : Nat → St → Hp → Prop) (h0 : Pv 0 σ H)
  (hs : ∀ i σ H, i < n → Pv i σ H → g (.int (lo + i)) σ H fun σ2 H2 => tb { D with nx := Pv (i + 1), ct := Pv (i + 1), bk := D.nx } σ2 H2) (hd : ∀ σ H, Pv n σ H → D.nx σ H) :
  ∃ W : Nat → Nat → St → Hp → Prop, (∃ m, W 0 m σ H) ∧ ∀ i m σ H, W i m σ H →
   ((Itr lo n).stop i H ∧ D.nx σ H) ∨ ((Itr lo n).go i H ∧ ∃ N : St → Hp → Prop, (∀ σ' H', N σ' H' → ∃ m', m' < m ∧ W (i + 1) m' σ' H') ∧ ∀ x H', (Itr lo n).yld i H x H' → g x σ H' fun σ2 H2 => tb { D with nx := N, ct := N, bk := D.nx } σ2 H2) := by
 refine ⟨fun i m σ H => m = n - i ∧ i ≤ n ∧ Pv i σ H, ⟨n, by simp, Nat.zero_le _, h0⟩, ?_⟩
 rintro i m σ H ⟨rfl, hi, p⟩
 by_cases hlt : i < n
 ·refine .inr ⟨hlt, Pv (i + 1), fun σ' H' p' => ⟨n - (i + 1), by omega, rfl, hlt, p'⟩, fun x H' y => ?_⟩
  obtain ⟨e, y⟩ := y
  subst e y
  exact hs i σ _ hlt p
 ·have e : i = n := by omega
  subst e
  exact .inl ⟨Nat.le_refl _, hd σ H p⟩
end L2
namespace L2
open PySem PySem.Spec PyProof.Rows
abbrev R2 := V → V → Hp → VK → Prop
def OpR (X : Cx) (f : Value → Value → Sem Value) (r : R2) : Prop :=
 ∀ (pins : List (Addr × Obj)) (s : Shared) (σ : St) (H : Hp) (x y : V) (v u : Value) (Q : VK), Inv X pins σ H s → RelV x v → RelV y u → r x y H Q →
  wpAny (model X.prog X.w) X.A (f v u) (EP X pins σ Q) X.xe s
def UnR (X : Cx) (f : Value → Sem Value) (r : V → Hp → VK → Prop) : Prop :=
 ∀ (pins : List (Addr × Obj)) (s : Shared) (σ : St) (H : Hp) (x : V) (v : Value) (Q : VK), Inv X pins σ H s → RelV x v → r x H Q →
  wpAny (model X.prog X.w) X.A (f v) (EP X pins σ Q) X.xe s
def gP (X : Cx) (f : Value) (r : List V → Hp → VK → Prop) : Prop :=
 ∀ (pins : List (Addr × Obj)) (s : Shared) (σ : St) (H : Hp) (xs : List V) (us : List Value) (Q : VK), Inv X pins σ H s → Vals xs us → r xs H Q →
  wpAny (model X.prog X.w) X.A (call f us) (EP X pins σ Q) X.xe s
def tOp (r : R2) (ta tb : TE) : TE := fun σ H Q => ta σ H fun x H1 => tb σ H1 fun y H2 => r x y H2 Q
def tUn (r : V → Hp → VK → Prop) (ta : TE) : TE := fun σ H Q => ta σ H fun x H1 => r x H1 Q
def rI (C : Int → Int → Prop) (g : Int → Int → V) : R2 := fun x y H Q => ∃ i j, x = .int i ∧ y = .int j ∧ C i j ∧ Q (g i j) H
def rI0 (g : Int → Int → V) : R2 := fun x y H Q => ∃ i j, x = .int i ∧ y = .int j ∧ Q (g i j) H
def rU (g : Int → V) : V → Hp → VK → Prop := fun x H Q => ∃ i, x = .int i ∧ Q (g i) H
section
variable {X : Cx} {a b c : Expr} {ta tb tc : TE} {pos : Pos}
theorem FT (ha : PE X a ta) (hb : PE X b tb) {pins : List (Addr × Obj)} {s : Shared} {σ : St} {H : Hp} {R : V → V → Hp → Prop} (I : Inv X pins σ H s)
  (h : ta σ H fun x H1 => tb σ H1 fun y H2 => R x y H2) {Q : Value → Shared → Prop} {f : Value → Value → Sem Value}
  (hf : ∀ v u s2 x y H2, Inv X pins σ H2 s2 → RelV x v → RelV y u → R x y H2 → wpAny (model X.prog X.w) X.A (f v u) Q X.xe s2) :
  wpAny (model X.prog X.w) X.A (eval a X.env) (fun v s₁ => wpAny (model X.prog X.w) X.A (eval b X.env) (fun u s₂ => wpAny (model X.prog X.w) X.A (f v u) Q X.xe s₂) X.xe s₁) X.xe s := by
 refine thn (ha pins s σ H _ I h) fun v s1 ⟨x, H1, I1, r1, q1⟩ => ?_
 refine thn (hb pins s1 σ H1 _ I1 q1) fun u s2 ⟨y, H2, I2, r2, q2⟩ => ?_
 exact hf v u s2 x y H2 I2 r1 r2 q2
theorem az {op : Operator} {r : R2} (ho : OpR X (binaryOp op) r) (ha : PE X a ta) (hb : PE X b tb) : PE X (.BinOp a op b pos) (tOp r ta tb) := by
 intro pins s σ H Q I h
 exact wpAny_BinOp (FT ha hb I h fun v u s2 x y H2 I2 rx ry q => ho pins s2 σ H2 x y v u Q I2 rx ry q)
theorem tQ {op : UnaryOp} {r : V → Hp → VK → Prop} (ho : UnR X (unaryOp op) r) (ha : PE X a ta) : PE X (.UnaryOp op a pos) (tUn r ta) := by
 intro pins s σ H Q I h
 exact UnaryOp_ (thn (ha pins s σ H _ I h) fun v s1 ⟨x, H1, I1, r1, q1⟩ => ho pins s1 σ H1 x v Q I1 r1 q1)
theorem opI {f : Value → Value → Sem Value} {C : Int → Int → Prop} {g : Int → Int → Int}
  (rule : ∀ (i j : Int) (t u : Tok) (s : Shared) (Q : Value → Shared → Prop) (E : Value → Shared → Prop), C i j → Q (.int (g i j) s.toks) { s with toks := s.toks + 1 } → wpAny (model X.prog X.w) X.A (f (.int i t) (.int j u)) Q E s) :
  OpR X f (rI C fun i j => .int (g i j)) := by
 intro pins s σ H x y v u Q I rx ry h
 obtain ⟨i, j, rfl, rfl, hc, q⟩ := h
 obtain ⟨t, rfl⟩ := rx
 obtain ⟨t', rfl⟩ := ry
 exact rule i j t t' s _ _ hc ⟨.int (g i j), H, I.tok _, ⟨_, rfl⟩, q⟩
theorem FW {f : Value → Value → Sem Value} {g : Int → Int → Int}
  (rule : ∀ (i j : Int) (t u : Tok) (s : Shared) (Q : Value → Shared → Prop) (E : Value → Shared → Prop), Q (.int (g i j) s.toks) { s with toks := s.toks + 1 } → wpAny (model X.prog X.w) X.A (f (.int i t) (.int j u)) Q E s) :
  OpR X f (rI0 fun i j => .int (g i j)) := by
 intro pins s σ H x y v u Q I rx ry h
 obtain ⟨i, j, rfl, rfl, q⟩ := h
 obtain ⟨t, rfl⟩ := rx
 obtain ⟨t', rfl⟩ := ry
 exact rule i j t t' s _ _ ⟨.int (g i j), H, I.tok _, ⟨_, rfl⟩, q⟩
theorem Dz {f : Value → Value → Sem Value} {g : Int → Int → Bool}
  (rule : ∀ (i j : Int) (t u : Tok) (s : Shared) (Q : Value → Shared → Prop) (E : Value → Shared → Prop), Q (.bool (g i j)) s → wpAny (model X.prog X.w) X.A (f (.int i t) (.int j u)) Q E s) :
  OpR X f (rI0 fun i j => .bl (g i j)) := by
 intro pins s σ H x y v u Q I rx ry h
 obtain ⟨i, j, rfl, rfl, q⟩ := h
 obtain ⟨t, rfl⟩ := rx
 obtain ⟨t', rfl⟩ := ry
 exact rule i j t t' s _ _ ⟨.bl (g i j), H, I, rfl, q⟩
def Hw (i j : Int) : Prop := 0 < j ∧ j < 1073741824
def Ey (i j : Int) : Prop := (-(2 ^ 64) < i ∧ i < 2 ^ 64) ∨ (-(2 ^ 64) < j ∧ j < 2 ^ 64)
theorem Ey.ok {i j : Int} (h : Ey i j) : IntMulOk i j := by
 rcases h with ⟨h1, h2⟩ | ⟨h1, h2⟩
 ·exact .of_left (intBits_le_64 h1 h2)
 ·exact .of_right (intBits_le_64 h1 h2)
theorem xf (k : Nat) : (0 : Int) ≤ 2 ^ k := by
 rw [two_pow_cast]
 exact Int.natCast_nonneg _
theorem aV : OpR X (binaryOp .Add) (rI0 fun i j => .int (i + j)) := FW fun _ _ _ _ _ _ _ q => add_int q
theorem bx : OpR X (binaryOp .Sub) (rI0 fun i j => .int (i - j)) := FW fun _ _ _ _ _ _ _ q => sub_int q
theorem b8 : OpR X (binaryOp .Mult) (rI Ey fun i j => .int (i * j)) := opI fun _ _ _ _ _ _ _ hc q => mul_int q hc.ok
theorem cg : OpR X (binaryOp .FloorDiv) (rI Hw fun i j => .int (i / j)) := opI fun i j _ _ _ _ _ hc q => by
 have h1 : (0 : Int) < j := hc.1
 have h2 : j < 1073741824 := hc.2
 exact floordiv_int (by omega) (by rw [Int.fdiv_eq_ediv_of_nonneg i (by omega)]; exact q) (.inl (PyProof.noPylong_small (by omega)))
theorem bJ : OpR X (binaryOp .Mod) (rI (fun _ j => 0 < j) fun i j => .int (i % j)) := opI fun i j _ _ _ _ _ hc q => by
 have h1 : (0 : Int) < j := hc
 exact mod_int' (by omega) (by rw [Int.fmod_eq_emod_of_nonneg i (by omega)]; exact q)
theorem Fq : OpR X (binaryOp .RShift) (rI (fun _ j => 0 ≤ j) fun i j => .int (i / 2 ^ j.toNat)) := opI fun i j _ _ _ _ _ hc q =>
 rshift_int hc (by rw [Int.fdiv_eq_ediv_of_nonneg i (xf _)]; exact q)
theorem Ga : OpR X (binaryOp .BitAnd) (rI0 fun i j => .int (Builtin.bitAnd i j)) := FW fun _ _ _ _ _ _ _ q => and_int q
theorem unI {f : Value → Sem Value} {g : Int → Int}
  (rule : ∀ (i : Int) (t : Tok) (s : Shared) (Q : Value → Shared → Prop) (E : Value → Shared → Prop), Q (.int (g i) s.toks) { s with toks := s.toks + 1 } → wpAny (model X.prog X.w) X.A (f (.int i t)) Q E s) :
  UnR X f (rU fun i => .int (g i)) := by
 intro pins s σ H x v Q I rx h
 obtain ⟨i, rfl, q⟩ := h
 obtain ⟨t, rfl⟩ := rx
 exact rule i t s _ _ ⟨.int (g i), H, I.tok _, ⟨_, rfl⟩, q⟩
theorem m9 : UnR X (unaryOp .USub) (rU fun i => .int (-i)) := unI fun _ _ _ _ _ q => neg_int q
end
def Gn : V → V → Bool
 | .non, .non => true | .non, .int _ => true | .int _, .non => true | .non, .bl _ => true | .bl _, .non => true | .non, .str _ => true | .str _, .non => true
 | .int _, .int _ => true | .bl _, .bl _ => true | .str _, .str _ => true | .byt _, .byt _ => true
 | .int _, .str _ => true | .str _, .int _ => true | .bl _, .str _ => true | .str _, .bl _ => true
 | _, _ => false
def rEq : R2 := fun x y H Q => Gn x y = true ∧ Q (.bl (decide (x = y))) H
def rNe : R2 := fun x y H Q => Gn x y = true ∧ Q (.bl (!decide (x = y))) H
theorem yH {i j : Int} : decide (V.int i = V.int j) = (i == j) := by
 rw [Bool.eq_iff_iff]
 simp
theorem Bj {i j : Bool} : decide (V.bl i = V.bl j) = (i == j) := by
 rw [Bool.eq_iff_iff]
 simp
theorem yM {i j : Str} : decide (V.str i = V.str j) = (i == j) := by
 rw [Bool.eq_iff_iff]
 simp
theorem yN {i j : Array UInt8} : decide (V.byt i = V.byt j) = (i.toList == j.toList) := by
 rw [Bool.eq_iff_iff]
 cases i
 cases j
 simp
section
variable {X : Cx} {a b c : Expr} {ta tb tc : TE} {pos : Pos}
theorem bG {pins : List (Addr × Obj)} {σ : St} {H : Hp} {s : Shared} {Q : VK} {k k' : Bool} (I : Inv X pins σ H s) (q : Q (.bl k) H) (e : k = k') : EP X pins σ Q (.bool k') s := by
 subst e
 exact ⟨.bl k, H, I, rfl, q⟩
theorem bY : OpR X (compareOp .Eq) rEq := by
 intro pins s σ H x y v u Q I rx ry h
 obtain ⟨hs, q⟩ := h
 cases x with
 | non =>
  cases rx
  cases y with
  | non => cases ry; exact PySem.EqNone.eq_none_none (bG I q (by simp))
  | bl j => cases ry; exact PySem.EqNone.eq_none_bool (bG I q (by simp))
  | int j => obtain ⟨t', rfl⟩ := ry; exact PySem.EqNone.eq_none_int (bG I q (by simp))
  | str j => obtain ⟨t', rfl⟩ := ry; exact PySem.EqNone.eq_none_str (bG I q (by simp))
  | _ => exact absurd (show false = true from hs) Bool.false_ne_true
 | bl i =>
  cases rx
  cases y with
  | non => cases ry; exact PySem.EqNone.eq_bool_none (bG I q (by simp))
  | bl j => cases ry; exact eq_bool (bG I q Bj)
  | str j => obtain ⟨t', rfl⟩ := ry; exact PySem.EqMixed.eq_bool_str (bG I q (by simp))
  | _ => exact absurd (show false = true from hs) Bool.false_ne_true
 | int i =>
  obtain ⟨t, rfl⟩ := rx
  cases y with
  | non => cases ry; exact PySem.EqNone.eq_int_none (bG I q (by simp))
  | int j => obtain ⟨t', rfl⟩ := ry; exact eq_int (bG I q yH)
  | str j => obtain ⟨t', rfl⟩ := ry; exact PySem.EqMixed.eq_int_str (bG I q (by simp))
  | _ => exact absurd (show false = true from hs) Bool.false_ne_true
 | str i =>
  obtain ⟨t, rfl⟩ := rx
  cases y with
  | non => cases ry; exact PySem.EqNone.eq_str_none (bG I q (by simp))
  | bl j => cases ry; exact PySem.EqMixed.eq_str_bool (bG I q (by simp))
  | int j => obtain ⟨t', rfl⟩ := ry; exact PySem.EqMixed.eq_str_int (bG I q (by simp))
  | str j => obtain ⟨t', rfl⟩ := ry; exact eq_str (bG I q yM)
  | _ => exact absurd (show false = true from hs) Bool.false_ne_true
 | byt i =>
  obtain ⟨t, rfl⟩ := rx
  cases y with
  | byt j => obtain ⟨t', rfl⟩ := ry; exact PySem.W.eq_bytes (bG I q yN)
  | _ => exact absurd (show false = true from hs) Bool.false_ne_true
 | _ => cases y <;> exact absurd (show false = true from hs) Bool.false_ne_true
theorem yJ : OpR X (compareOp .NotEq) rNe := by
 intro pins s σ H x y v u Q I rx ry h
 obtain ⟨hs, q⟩ := h
 cases x with
 | non =>
  cases rx
  cases y with
  | non => cases ry; exact PySem.EqNone.ne_none_none (bG I q (by simp))
  | bl j => cases ry; exact PySem.EqNone.ne_none_bool (bG I q (by simp))
  | int j => obtain ⟨t', rfl⟩ := ry; exact PySem.EqNone.ne_none_int (bG I q (by simp))
  | str j => obtain ⟨t', rfl⟩ := ry; exact PySem.EqNone.ne_none_str (bG I q (by simp))
  | _ => exact absurd (show false = true from hs) Bool.false_ne_true
 | bl i =>
  cases rx
  cases y with
  | non => cases ry; exact PySem.EqNone.ne_bool_none (bG I q (by simp))
  | bl j => cases ry; exact ne_bool (bG I q (congrArg not Bj))
  | str j => obtain ⟨t', rfl⟩ := ry; exact PySem.EqMixed.ne_bool_str (bG I q (by simp))
  | _ => exact absurd (show false = true from hs) Bool.false_ne_true
 | int i =>
  obtain ⟨t, rfl⟩ := rx
  cases y with
  | non => cases ry; exact PySem.EqNone.ne_int_none (bG I q (by simp))
  | int j => obtain ⟨t', rfl⟩ := ry; exact ne_int (bG I q (congrArg not yH))
  | str j => obtain ⟨t', rfl⟩ := ry; exact PySem.EqMixed.ne_int_str (bG I q (by simp))
  | _ => exact absurd (show false = true from hs) Bool.false_ne_true
 | str i =>
  obtain ⟨t, rfl⟩ := rx
  cases y with
  | non => cases ry; exact PySem.EqNone.ne_str_none (bG I q (by simp))
  | bl j => cases ry; exact PySem.EqMixed.ne_str_bool (bG I q (by simp))
  | int j => obtain ⟨t', rfl⟩ := ry; exact PySem.EqMixed.ne_str_int (bG I q (by simp))
  | str j => obtain ⟨t', rfl⟩ := ry; exact ne_str (bG I q (congrArg not yM))
  | _ => exact absurd (show false = true from hs) Bool.false_ne_true
 | byt i =>
  obtain ⟨t, rfl⟩ := rx
  cases y with
  | byt j => obtain ⟨t', rfl⟩ := ry; exact PySem.W.ne_bytes (bG I q (congrArg not yN))
  | _ => exact absurd (show false = true from hs) Bool.false_ne_true
 | _ => cases y <;> exact absurd (show false = true from hs) Bool.false_ne_true
theorem jg : OpR X (compareOp .Lt) (rI0 fun i j => .bl (decide (i < j))) := Dz fun _ _ _ _ _ _ _ q => lt_int q
theorem di : OpR X (compareOp .LtE) (rI0 fun i j => .bl (decide (i ≤ j))) := Dz fun _ _ _ _ _ _ _ q => le_int q
theorem gU : OpR X (compareOp .Gt) (rI0 fun i j => .bl (decide (j < i))) := Dz fun _ _ _ _ _ _ _ q => gt_int q
theorem tZ : OpR X (compareOp .GtE) (rI0 fun i j => .bl (decide (j ≤ i))) := Dz fun _ _ _ _ _ _ _ q => ge_int q
theorem aN (b : Expr) {op : CmpOp} (h : op ≠ .In := by decide) (h2 : op ≠ .NotIn := by decide) : behindInMarks op b = false := by
 have e1 : (op == CmpOp.In) = false := by cases op <;> first | rfl | exact absurd rfl h
 have e2 : (op == CmpOp.NotIn) = false := by cases op <;> first | rfl | exact absurd rfl h2
 cases b <;> simp [behindInMarks, e1, e2]
theorem iM {op : CmpOp} {r : R2} (ho : OpR X (compareOp op) r) (ha : PE X a ta) (hb : PE X b tb) (hm : behindInMarks op b = false) : PE X (.Compare a [op] [b] pos) (tOp r ta tb) := by
 intro pins s σ H Q I h
 exact wpAny_Compare1 (FT ha hb I h fun v u s2 x y H2 I2 rx ry q => ho pins s2 σ H2 x y v u Q I2 rx ry q) hm
def BX (t : TE) : TT := fun σ H Q => t σ H fun x H' => ∃ k, x = .bl k ∧ Q k H'
theorem aL {op : CmpOp} {r : R2} (ho : OpR X (compareOp op) r) (ha : PE X a ta) (hb : PE X b tb) (hm : behindInMarks op b = false) : PT X (.Compare a [op] [b] pos) (BX (tOp r ta tb)) := by
 intro pins s σ H Q I h
 refine wpAny_isTrue_Compare1 (thn (ha pins s σ H _ I h) fun v s1 ⟨x, H1, I1, r1, q1⟩ => thn (hb pins s1 σ H1 _ I1 q1) fun u s2 ⟨y, H2, I2, r2, q2⟩ =>
  thn (ho pins s2 σ H2 x y v u _ I2 r1 r2 q2) fun c s3 ⟨z, H3, I3, r3, k, e, q3⟩ => ?_) hm
 subst e
 cases r3
 exact wpAny_truthy_bool ⟨H3, I3, q3⟩
def Ca (r r' : R2) (ta tb tc : TE) : TE := fun σ H Q => ta σ H fun x H1 => tb σ H1 fun y H2 => r x y H2 fun z H3 => ∃ k, z = .bl k ∧
 (if k = true then tc σ H3 fun w' H4 => r' y w' H4 Q else Q (.bl false) H3)
theorem vV {op op' : CmpOp} {r r' : R2} (ho : OpR X (compareOp op) r) (ho' : OpR X (compareOp op') r') (ha : PE X a ta) (hb : PE X b tb) (hc : PE X c tc)
  (hm : lastMarks [op, op'] [b, c] = false := by with_unfolding_all rfl) : PE X (.Compare a [op, op'] [b, c] pos) (Ca r r' ta tb tc) := by
 intro pins s σ H Q I h
 refine Compare_chain (thn (ha pins s σ H _ I h) fun v s1 ⟨x, H1, I1, r1, q1⟩ => chain_link (thn (hb pins s1 σ H1 _ I1 q1) fun u s2 ⟨y, H2, I2, r2, q2⟩ =>
  thn (ho pins s2 σ H2 x y v u _ I2 r1 r2 q2) fun d s3 ⟨z, H3, I3, r3, k, e, q3⟩ => ?_)) hm
 subst e
 cases r3
 refine wpAny_truthy_bool ?_
 cases k with
 | false => exact ite_ff ⟨.bl false, H3, I3, rfl, q3⟩
 | true => exact ite_tt (chain_last (thn (hc pins s3 σ H3 _ I3 q3) fun w' s4 ⟨z', H4, I4, r4, q4⟩ => ho' pins s4 σ H4 y z' u w' Q I4 r2 r4 q4))
theorem qZ {op op' : CmpOp} {r r' : R2} (ho : OpR X (compareOp op) r) (ho' : OpR X (compareOp op') r') (ha : PE X a ta) (hb : PE X b tb) (hc : PE X c tc)
  (hm : lastMarks [op, op'] [b, c] = false := by with_unfolding_all rfl) : PT X (.Compare a [op, op'] [b, c] pos) (BX (Ca r r' ta tb tc)) := by
 intro pins s σ H Q I h
 refine isTrue_chain (thn (ha pins s σ H _ I h) fun v s1 ⟨x, H1, I1, r1, q1⟩ => test_link (thn (hb pins s1 σ H1 _ I1 q1) fun u s2 ⟨y, H2, I2, r2, q2⟩ =>
  thn (ho pins s2 σ H2 x y v u _ I2 r1 r2 q2) fun d s3 ⟨z, H3, I3, r3, k, e, q3⟩ => ?_)) hm
 subst e
 cases r3
 refine wpAny_truthy_bool ?_
 cases k with
 | false =>
  obtain ⟨k', e', q'⟩ := q3
  cases e'
  exact ite_ff ⟨H3, I3, q'⟩
 | true =>
  refine ite_tt (test_last (thn (hc pins s3 σ H3 _ I3 q3) fun w' s4 ⟨z', H4, I4, r4, q4⟩ => thn (ho' pins s4 σ H4 y z' u w' _ I4 r2 r4 q4) fun d' s5 ⟨z2, H5, I5, r5, k2, e2, q5⟩ => ?_))
  subst e2
  cases r5
  exact wpAny_truthy_bool ⟨H5, I5, q5⟩
theorem uO : (sizeLine : Nat) < 2 ^ 63 := by rw [sizeLine_eq]; decide
theorem vals1 {x : V} {us : List Value} (r : Vals [x] us) : ∃ u, us = [u] ∧ RelV x u := by
 cases r with
 | cons r1 r2 => cases r2; exact ⟨_, rfl, r1⟩
theorem vals2 {x y : V} {us : List Value} (r : Vals [x, y] us) : ∃ u w', us = [u, w'] ∧ RelV x u ∧ RelV y w' := by
 cases r with
 | cons r1 r2 =>
  cases r2 with
  | cons r3 r4 => cases r4; exact ⟨_, _, rfl, r1, r3⟩
theorem t8 (hc : X.calm = true) : gP X (.builtin "max") (fun xs H Q => ∃ i j, xs = [.int i, .int j] ∧ Q (.int (if j > i then j else i)) H) := by
 intro pins s σ H xs us Q I r h
 obtain ⟨i, j, rfl, q⟩ := h
 obtain ⟨u, w', rfl, ⟨t, rfl⟩, ⟨t', rfl⟩⟩ := vals2 r
 refine max_two_ints (I.ok.hd hc) fun h' tk k => ⟨_, H, I.kept k, ?_, q⟩
 by_cases hj : j > i
 ·rw [if_pos hj, if_pos hj]; exact ⟨_, rfl⟩
 ·rw [if_neg hj, if_neg hj]; exact ⟨_, rfl⟩
theorem jV (hc : X.calm = true) : gP X (.builtin "min") (fun xs H Q => ∃ i j, xs = [.int i, .int j] ∧ Q (.int (if j < i then j else i)) H) := by
 intro pins s σ H xs us Q I r h
 obtain ⟨i, j, rfl, q⟩ := h
 obtain ⟨u, w', rfl, ⟨t, rfl⟩, ⟨t', rfl⟩⟩ := vals2 r
 refine min_two_ints (I.ok.hd hc) fun h' tk k => ⟨_, H, I.kept k, ?_, q⟩
 by_cases hj : j < i
 ·rw [if_pos hj, if_pos hj]; exact ⟨_, rfl⟩
 ·rw [if_neg hj, if_neg hj]; exact ⟨_, rfl⟩
end
end L2
namespace L2
open PySem PySem.Spec PyProof.Rows
structure Ew (h : Heap) (x dx C : Addr) (mA : Str → Option Value) : Prop where
 obj : h.get? x = some (PySem.W.instObj C dx)
 ns : h.Ns1 dx mA
 ne : dx ≠ x
theorem zZ {h : Heap} {dx : Addr} {mA : Str → Option Value} (n : h.Ns1 dx mA) : ∃ od, h.get? dx = some od ∧ ∀ name, PySem.W.lookIn name od = some (mA name) := by
 obtain ⟨o, es, ep, ho, hd, hk, _, hm⟩ := n
 refine ⟨o, ho, fun name => ?_⟩
 have e := hm name
 unfold nsFind findBy at e
 rw [← Array.find?_toList] at e
 unfold PySem.W.lookIn
 rw [hd]
 dsimp only
 split
 ·rename_i y q
  rw [q] at e
  exact congrArg some e
 ·rename_i q
  rw [q] at e
  have a : es.toList.any (·.refKey) = false := by
   rw [List.any_eq_false]
   intro y hy
   obtain ⟨z, t, hkey⟩ := hk y (Array.mem_toList_iff.mp hy)
   simp [DictEntry.refKey, hkey]
  have a' : ¬ es.toList.any (·.refKey) = true := by rw [a]; exact Bool.false_ne_true
  rw [if_neg a']
  exact congrArg some e
theorem Ew.look {h : Heap} {x dx C : Addr} {mA : Str → Option Value} (I : Ew h x dx C mA) : ∃ od, PySem.W.InstAt h x (PySem.W.instObj C dx) C (some od) ∧ ∀ name, PySem.W.lookIn name od = some (mA name) :=
 let ⟨od, ho, hl⟩ := zZ I.ns
 ⟨od, ⟨I.obj, rfl, rfl, ho⟩, hl⟩
section
variable {prog : Program} {w : World} {A : Around} {E : Value → Shared → Prop} {s : Shared} {K : PySem.W.Frag} {x dx C f : Addr} {mA : Str → Option Value} {name : Str} {v : Value}
end
theorem qb.some_of {v : V} {o : Option Value} (r : qb (some v) o) : ∃ u, o = some u ∧ RelV v u := by
 cases o with
 | none => exact (show False from r).elim
 | some u => exact ⟨u, rfl, r⟩
section
variable {P : Program} {w : World} {H H' : Hp} {h h' : Heap} {a C dx : Addr} {fs fs' : List (Str × V)}
theorem Dq (hok : HOk P w H h) (e : H a = some (.ins C dx fs)) : ∃ mA, Ew h a dx C mA ∧ (∀ f, qb (fs.lookup f) (mA f)) ∧ PySem.Within mA (fs.map (·.1)) ∧ fs.length ≤ 1000 ∧ H dx = some (.own a) := by
 obtain ⟨d, z, ne, ob, mA, n, r, q⟩ := (show bN P w H h a (.ins C dx fs) from hok a _ e)
 exact ⟨mA, ⟨ob, n, ne⟩, r, q, z, d⟩
end
structure Cls (K : PySem.W.Frag) (C : Addr) : Prop where
 pg : PySem.W.plainGet K C Str.empty = true
 hd : PySem.W.hasDictIn K C = true
 po : PySem.W.plainOver K C = true
 sa : PySem.W.findIn K (.ref C) "__setattr__" = some (some (.builtin "object.__setattr__"))
theorem Cls.get {K : PySem.W.Frag} {C : Addr} (c : Cls K C) (f : Str) : PySem.W.plainGet K C f = true := c.pg
section
variable {X : Cx} {pins : List (Addr × Obj)} {σ : St} {H : Hp} {s : Shared} {a C dx : Addr} {fs : List (Str × V)} {f : Str} {v : V} {A : Around} {E : Value → Shared → Prop}
end
section
variable {X : Cx} {o e value : Expr} {f : Str} {pos pos' tpos : Pos} {ta tv : TE}
end
section
variable {X : Cx} {pins : List (Addr × Obj)} {σ : St} {H : Hp} {s : Shared} {A : Around} {E : Value → Shared → Prop} {Q : Value → Shared → Prop} {c : Value} {b : Bool}
inductive nT (K : PySem.W.Frag) (H : Hp) : V → Value → Prop where
 | non : nT K H .non (.type "NoneType")
 | bl (x : Bool) : nT K H (.bl x) (.type "bool")
 | int (i : Int) : nT K H (.int i) (.type "int")
 | str (x : Str) : nT K H (.str x) (.type "str")
 | flt (x : UInt64) : nT K H (.flt x) (.type "float")
 | lst {a : Addr} {xs : List V} (e : H a = some (.lst xs)) : nT K H (.ref a) (.type "list")
 | frz {a : Addr} {o : Obj} {xs : List V} (e : H a = some (.frz o (.lst xs))) : nT K H (.ref a) (.type "list")
 | tup {a : Addr} {xs : List V} (e : H a = some (.tup xs)) : nT K H (.ref a) (.type "tuple")
 | dK {a : Addr} {kvs : List (Key × V)} (e : H a = some (.dK kvs)) : nT K H (.ref a) (.type "dict")
 | dT {a : Addr} {kvs : List (List Key × V)} (e : H a = some (.dT kvs)) : nT K H (.ref a) (.type "dict")
 | ins {a C dx : Addr} {fs : List (Str × V)} (e : H a = some (.ins C dx fs)) (cl : Cls K C) (ha : PySem.W.findIn K (.ref C) "__class__" = some (some (.builtin "object.__class__")))
   (hn : PySem.W.specialIn K (.builtin "object.__class__") "__get__" = some (some (.builtin "getset_descriptor.__get__"))) (htk : PySem.W.takesIn K (.builtin "object.__class__") = some true)
   (hm : PySem.W.mroIn K C (.type "object") = some true) : nT K H (.ref a) (.ref C)
theorem z8 {x : V} {u t : Value} (I : Inv X pins σ H s) (rx : RelV x u) (ty : nT X.K H x t) (e : PySem.W.kitOne X.K t c = some b) (h : ∀ tk, Q (.bool b) { s with toks := tk }) :
  wpAny (model X.prog X.w) A (call (.builtin "isinstance") [u, c]) Q E s := by
 cases ty with
 | non => cases (show u = Value.none from rx); exact PySem.W.kia_one PySem.W.kitx_none I.kIn True.intro e (fun z => nomatch z) h
 | bl y => cases (show u = Value.bool y from rx); exact PySem.W.kia_one PySem.W.kitx_bool I.kIn True.intro e (fun z => nomatch z) h
 | int i => obtain ⟨t, q⟩ := (show ∃ t, u = Value.int i t from rx); cases q; exact PySem.W.kia_one PySem.W.kitx_int I.kIn True.intro e (fun z => nomatch z) h
 | str y => obtain ⟨t, q⟩ := (show ∃ t, u = Value.str y t from rx); cases q; exact PySem.W.kia_one PySem.W.kitx_str I.kIn True.intro e (fun z => nomatch z) h
 | flt y => obtain ⟨t, q⟩ := (show ∃ t, u = Value.float y t from rx); cases q; exact PySem.W.kia_one PySem.W.kitx_float I.kIn True.intro e (fun z => nomatch z) h
 | @lst a xs ea =>
  cases (show u = Value.ref a from rx)
  obtain ⟨_, _, n, _, h1⟩ := (show bN X.prog X.w H s.heap a (.lst xs) from I.hok a _ ea)
  exact PySem.W.kia_one PySem.W.kitx_list I.kIn ⟨_, h1, rfl⟩ e (fun z => nomatch z) h
 | @frz a ob xs ea =>
  cases (show u = Value.ref a from rx)
  obtain ⟨_, _, _, n, _, h1⟩ := (show bN X.prog X.w H s.heap a (.frz ob (.lst xs)) from I.hok a _ ea)
  exact PySem.W.kia_one PySem.W.kitx_list I.kIn ⟨_, h1, rfl⟩ e (fun z => nomatch z) h
 | @tup a xs ea =>
  cases (show u = Value.ref a from rx)
  obtain ⟨_, _, _, p⟩ := (show bN X.prog X.w H s.heap a (.tup xs) from I.hok a _ ea)
  obtain ⟨o, h1, h2, _⟩ := p
  exact PySem.W.kia_one PySem.W.kitx_tuple I.kIn ⟨o, h1, h2⟩ e (fun z => nomatch z) h
 | @dK a kvs ea =>
  cases (show u = Value.ref a from rx)
  obtain ⟨_, _, vs, _, p⟩ := (show bN X.prog X.w H s.heap a (.dK kvs) from I.hok a _ ea)
  obtain ⟨o, es, ep, h1, h2, _⟩ := p
  exact PySem.W.kia_one PySem.W.kitx_dict I.kIn ⟨o, h1, h2.1⟩ e (fun z => nomatch z) h
 | @dT a kvs ea =>
  cases (show u = Value.ref a from rx)
  obtain ⟨_, _, xs, _, o, es, ep, h1, h2, _⟩ := (show bN X.prog X.w H s.heap a (.dT kvs) from I.hok a _ ea)
  exact PySem.W.kia_one PySem.W.kitx_dict I.kIn ⟨o, h1, h2.1⟩ e (fun z => nomatch z) h
 | @ins a C dx fs ea cl ha hn htk hm =>
  cases (show u = Value.ref a from rx)
  obtain ⟨mA, O, _⟩ := Dq I.hok ea
  obtain ⟨od, J, _⟩ := O.look
  exact PySem.W.kia_one (PySem.W.kitx_own (cl.get _) cl.hd ha hn htk hm) I.kIn J e (fun z => nomatch z) h
end
end L2
namespace L2
open PySem PySem.Spec PyProof.Rows
structure dF (k : Nat) (A : Around) : Prop where
 hd : A.handled = none
 dp : A.depth + 3 * k + 5 < recursionLimit
 un : A.units + 16 * k + 200 < cLine
theorem dF.mono {j k : Nat} {A : Around} (r : dF k A) (h : j ≤ k) : dF j A := ⟨r.hd, by have := r.dp; omega, by have := r.un; omega⟩
theorem dF.deeper {k : Nat} {A : Around} (r : dF (k + 1) A) (env : Env) : dF k (A.deeper env) :=
 ⟨r.hd, by have := r.dp; show A.depth + 1 + 3 * k + 5 < _; omega, by have := r.un; show A.units + 3 + 16 * k + 200 < _; omega⟩
theorem dF.depth {k : Nat} {A : Around} (r : dF k A) : A.depth < recursionLimit := by have := r.dp; omega
theorem dF.units {k : Nat} {A : Around} (r : dF k A) : A.units + 64 < cLine := by have := r.un; omega
def GZ : TA := fun _ H Q => Q [] H
def Ej (ta : TE) (tr : TA) : TA := fun σ H Q => ta σ H fun x H1 => tr σ H1 fun xs H2 => Q (x :: xs) H2
section
variable {X : Cx} {e : Expr} {es : List Expr} {te : TE} {t : TA} {pos : Pos}
theorem ak : PA X [] GZ := fun _ _ _ _ H Q I h => Calls.spliced_nil ⟨[], H, I, .nil, h⟩
theorem aa (ha : PE X e te) (hr : PA X es t) (hs : starEach (e :: es) X.env = (false, eval e X.env) :: starEach es X.env := by rfl) : PA X (e :: es) (Ej te t) := by
 intro pos pins s σ H Q I h
 rw [hs]
 show wpAny _ _ (spliced ((false, eval e X.env) :: backTo pos (starEach es X.env))) _ _ s
 refine Calls.spliced_cons (thn (ha pins s σ H _ I h) fun u s1 ⟨x, H1, I1, r1, q1⟩ => ?_)
 exact thn (hr pos pins s1 σ H1 _ I1 q1) fun us s2 ⟨xs, H2, I2, r2, q2⟩ => ⟨x :: xs, H2, I2, .cons r1 r2, q2⟩
def Hc (t : TA) : TE := fun σ H Q => t σ H fun xs H1 => xs.length ≤ sizeLine ∧ ∀ p, H1 p = none → Q (.ref p) (upd H1 p (.tup xs))
def G4 (t : TA) : TE := fun σ H Q => t σ H fun xs H1 => xs.length ≤ sizeLine ∧ ∀ p, H1 p = none → Q (.ref p) (upd H1 p (.lst xs))
theorem oR {x1} (h : PA X es t) : PE X (.Tuple es x1 pos) (Hc t) := by
 intro pins s σ H Q I hq
 refine wpAny_Tuple_spliced (thn (h pos pins s σ H _ I hq) fun us s1 ⟨xs, H1, I1, r, z, q⟩ => ⟨by rw [← r.length]; exact z, ?_⟩)
 have hf : H1 s1.heap.objs.size = none := I1.hok.fresh (Nat.le_refl _)
 refine ⟨.ref s1.heap.objs.size, upd H1 s1.heap.objs.size (.tup xs), I1.laid (t' := s1.toks) (fun b u e => Heap.get?_push_of_some _ e) (Nat.le_refl _) ?_, rfl, q _ hf⟩
 exact ⟨z, us, r, ⟨_, Heap.get?_push_size _ rfl, rfl, _, rfl⟩⟩
theorem cD (h : PA X es t) : PE X (.List es pos) (G4 t) := by
 intro pins s σ H Q I hq
 refine wpAny_List_spliced (thn (h pos pins s σ H _ I hq) fun us s1 ⟨xs, H1, I1, r, z, q⟩ => ⟨by rw [← r.length]; exact z, ?_⟩)
 have hf : H1 s1.heap.objs.size = none := I1.hok.fresh (Nat.le_refl _)
 refine ⟨.ref s1.heap.objs.size, upd H1 s1.heap.objs.size (.lst xs), I1.laid (t' := s1.toks) (fun b u e => Heap.get?_push_of_some _ e) (Nat.le_refl _) ?_, rfl, q _ hf⟩
 exact ⟨z, us, 0, r, Heap.get?_push_size _ rfl⟩
end
abbrev Sp := List V → Hp → VK → XK → Prop
abbrev CXT := List Env → Hp → Shared → XK → Value → Shared → Prop
structure xm (P : Program) (w : World) (K : PySem.W.Frag) (mg : Str → Option Value) (base : Heap) (A : Around) (outer : List Env) (s : Shared) (H : Hp) : Prop where
 frames : A.frames = some outer
 mod : Mod K mg base
 bs : ∀ b o, base.get? b = some o → s.heap.get? b = some o ∧ H b = none
 bsz : base.objs.size ≤ s.heap.objs.size
 funs : s.heap.FunFrames base outer
 frf : ∀ b ∈ frs outer, H b = none
 hok : HOk P w H s.heap
 bare : AllBare s.gens
def CE (outer : List Env) (P : Program) (w : World) (H : Hp) (s : Shared) (Q : VK) (u : Value) (s' : Shared) : Prop :=
 ∃ v H', s'.os = s.os ∧ AllBare s'.gens ∧ Un (frs outer) [] H H' s.heap s'.heap ∧ HOk P w H' s'.heap ∧ RelV v u ∧ Q v H'
def CR (CX : CXT) (outer : List Env) (P : Program) (w : World) (H : Hp) (s : Shared) (Q : VK) (E : XK) (r : Result) (s' : Shared) : Prop :=
 match r with
 | .ok (.ret u) => CE outer P w H s Q u s'
 | .ok _ => False
 | .error e => CX outer H s E e s'
structure bj (P : Program) (w : World) (K : PySem.W.Frag) (mg : Str → Option Value) (base : Heap) (CX : CXT) (k : Nat) (f : Addr) (fd : FuncData) (ps : List Str) (sp : Sp) : Prop where
 len : ∀ vs H Q E, sp vs H Q E → vs.length = ps.length
 run : ∀ (A : Around) (outer : List Env) (s : Shared) (H : Hp) (args : Args) (us : List Value) (vs : List V) (Q : VK) (E : XK), dF k A → xm P w K mg base A outer s H → BindsTo s fd args (ps.zip us) → Vals vs us → sp vs H Q E →
  codeAny (model P w) A (.call (.ref f) args) (CR CX outer P w H s Q E) s
theorem bj.mono {P : Program} {w : World} {K : PySem.W.Frag} {mg : Str → Option Value} {base : Heap} {CX : CXT} {j k : Nat} {f : Addr} {fd : FuncData} {ps : List Str} {sp : Sp} (F : bj P w K mg base CX j f fd ps sp) (h : j ≤ k) :
  bj P w K mg base CX k f fd ps sp := ⟨F.len, fun A outer s H args us vs Q E hr => F.run A outer s H args us vs Q E (hr.mono h)⟩
section
variable {X : Cx} {pins : List (Addr × Obj)} {σ : St} {H : Hp} {s s' : Shared}
theorem Inv.env0 (I : Inv X pins σ H s) : xm X.prog X.w X.K X.mg X.base X.A X.stack s H :=
 ⟨I.ok.frames, I.ok.mod, I.bs, Nat.le_trans I.ok.bsz I.sz, I.stack, I.stkFree, I.hok, I.bare⟩
theorem Inv.after {Q : VK} {u : Value} (I : Inv X pins σ H s) (h : CE X.stack X.prog X.w H s Q u s') : EP X pins σ Q u s' := by
 obtain ⟨v, H', os, bare, un, hok, r, q⟩ := h
 obtain ⟨hh, g, d, t, os'⟩ := s'
 obtain rfl : os' = s.os := os
 exact ⟨v, H', I.call (h' := hh) (g' := g) (d' := d) (t' := t) (ch := []) un hok bare (fun b z => absurd z (by simp)), r, q⟩
end
def DY (sp : Sp) (dvs : List V) (E : XK) (t : TA) : TE := fun σ H Q => t σ H fun vs H1 => sp (vs ++ dvs) H1 Q E
def Binds (K : PySem.W.Frag) (fd : FuncData) (ps : List Str) (ds : List Value) : Prop :=
 ∀ (s : Shared) (us : List Value), K.In s.heap → (us ++ ds).length = ps.length → BindsTo s fd ⟨us, []⟩ (ps.zip (us ++ ds))
theorem Binds.all {K : PySem.W.Frag} {fd : FuncData} {ps : List Str} (h : ∀ us : List Value, us.length = ps.length → bindArgs fd ⟨us, []⟩ = pure (ps.zip us)) : Binds K fd ps [] := fun s us _ hl => by
 rw [List.append_nil] at hl ⊢
 exact .of_eq (h us hl)
def oJ (CX : CXT) (X : Cx) (E : XK) : Prop := ∀ (pins : List (Addr × Obj)) (σ : St) (H : Hp) (s : Shared) (e : Value) (s' : Shared), Inv X pins σ H s → CX X.stack H s E e s' → X.xe e s'
section
variable {X : Cx} {CX : CXT} {k : Nat} {f C : Addr} {fd : FuncData} {ps : List Str} {sp : Sp} {dvs : List V} {ds : List Value} {E : XK} {x m : Str} {p pos apos : Pos} {e o : Expr} {es : List Expr} {ta : TE} {t : TA}
theorem Fb {pins : List (Addr × Obj)} {σ : St} {H : Hp} {s : Shared} {Q : VK} {us : List Value} {vs : List V} (F : bj X.prog X.w X.K X.mg X.base CX k f fd ps sp) (hr : dF k X.A) (hb : Binds X.K fd ps ds) (hd : Vals dvs ds) (hx : oJ CX X E)
  (I : Inv X pins σ H s) (r : Vals vs us) (h : sp (vs ++ dvs) H Q E) : wpAny (model X.prog X.w) X.A (call (.ref f) us) (EP X pins σ Q) X.xe s := by
 have r2 : Vals (vs ++ dvs) (us ++ ds) := r.append hd
 have hl : (us ++ ds).length = ps.length := by rw [← r2.length]; exact F.len _ _ _ _ h
 refine wpAny_call (codeAny_mono (F.run X.A X.stack s H ⟨us, []⟩ (us ++ ds) (vs ++ dvs) Q E hr I.env0 (hb s us I.kIn hl) r2 h) fun r s' hq => ?_)
 cases r with
 | error e => exact hx pins σ H s e s' I hq
 | ok fl =>
  cases fl with
  | ret u => exact I.after hq
  | next => exact False.elim hq
  | brk => exact False.elim hq
  | cont => exact False.elim hq
theorem CV (F : bj X.prog X.w X.K X.mg X.base CX k f fd ps sp) (hr : dF k X.A) (hg : Gl X x) (hm : X.mg x = some (.ref f)) (hk : PySem.W.keepIn X.K (.ref f) = true) (hb : Binds X.K fd ps ds) (hd : Vals dvs ds) (hx : oJ CX X E)
  (ha : PA X (e :: es) t) (hdb : (x == ("__debug__" : Str)) = false := by decide) (he : starEach (e :: es) X.env = (false, eval e X.env) :: starEach es X.env := by rfl) (hpl : (backTo pos (starEach es X.env)).any (·.1) = false := by rfl) :
  PE X (.Call (.Name x p) (e :: es) [] pos) (DY sp dvs E t) := by
 intro pins s σ H Q I h
 refine wpAny_Call_Name_kw (uZ I hg hm ?_ hdb)
 refine PySem.W.callWith_K (h₀ := X.base) I.ok.mod.kin hk (thn (ha pos pins s σ H _ I h) fun us s1 ⟨vs, H1, I1, r, q⟩ => ⟨I1.kIn, ?_⟩) he hpl
 exact Fb F hr hb hd hx I1 r q
end
section
variable {X : Cx} {CX : CXT} {k : Nat} {f C : Addr} {fd : FuncData} {ps ks : List Str} {sp : Sp} {E : XK} {x m : Str} {p pos apos kpos : Pos} {e o : Expr} {es : List Expr} {kws : List Keyword} {te ta : TE} {t tk : TA} {nm : Option Str}
variable {g : List Value → List Value → List Value} {gV : List V → List V → List V}
end
structure aC (N P : List Str) (sc : Scope) : Prop where
 kind : sc.kind = .function
 co : sc.isCoroutine = false
 gen : sc.isGenerator = false
 nd : N.Nodup
 pre : N.take P.length = P
 par : ∀ x ∈ P, sc.names.lookup x = some .local ∨ sc.names.lookup x = some .cell
 nofree : ∀ y ∈ sc.names, y.2 ≠ .free
theorem tD {kindOf : Str → Option NameKind} {x : Str} : ∀ {binds : List (Str × Value)} {m : Str → Option Value}, (∀ v, (x, v) ∉ binds) → bindL kindOf binds m x = m x
 | [], _, _ => rfl
 | (n, v) :: r, m, h => by
  unfold bindL
  rw [tD fun w hw => h w (List.mem_cons_of_mem _ hw)]
  split
  ·have : x ≠ n := by rintro rfl; exact h v List.mem_cons_self
   simp [this]
  ·rfl
theorem sV {kindOf : Str → Option NameKind} {x : Str} : ∀ {binds : List (Str × Value)} {m : Str → Option Value}, (∀ v, (x, v) ∉ binds) → bindC kindOf binds m x = m x
 | [], _, _ => rfl
 | (n, v) :: r, m, h => by
  unfold bindC
  rw [sV fun w hw => h w (List.mem_cons_of_mem _ hw)]
  split
  ·rfl
  ·have : x ≠ n := by rintro rfl; exact h v List.mem_cons_self
   simp [this]
theorem tR {kindOf : Str → Option NameKind} {x : Str} {v : Value} : ∀ {P : List Str} {vs : List Value} {i : Nat} {m : Str → Option Value}, P.Nodup → P[i]? = some x → vs[i]? = some v → kindOf x = some .local →
  bindL kindOf (P.zip vs) m x = some v
 | [], _, _, _, _, h, _, _ => by simp at h
 | _ :: _, [], _, _, _, _, h, _ => by simp at h
 | p :: P, w :: vs, 0, m, nd, h1, h2, hk => by
  simp at h1 h2; subst h1; subst h2
  show bindL kindOf ((p, w) :: P.zip vs) m p = _
  unfold bindL
  rw [tD fun v hv => (List.nodup_cons.mp nd).1 (List.of_mem_zip hv).1, if_pos hk]
  simp
 | p :: P, w :: vs, i + 1, m, nd, h1, h2, hk => by
  show bindL kindOf ((p, w) :: P.zip vs) m x = _
  unfold bindL
  exact tR (i := i) (List.nodup_cons.mp nd).2 (by simpa using h1) (by simpa using h2) hk
theorem tX {kindOf : Str → Option NameKind} {x : Str} {v : Value} : ∀ {P : List Str} {vs : List Value} {i : Nat} {m : Str → Option Value}, P.Nodup → P[i]? = some x → vs[i]? = some v → kindOf x ≠ some .local →
  bindC kindOf (P.zip vs) m x = some v
 | [], _, _, _, _, h, _, _ => by simp at h
 | _ :: _, [], _, _, _, _, h, _ => by simp at h
 | p :: P, w :: vs, 0, m, nd, h1, h2, hk => by
  simp at h1 h2; subst h1; subst h2
  show bindC kindOf ((p, w) :: P.zip vs) m p = _
  unfold bindC
  rw [sV fun v hv => (List.nodup_cons.mp nd).1 (List.of_mem_zip hv).1, if_neg hk]
  simp
 | p :: P, w :: vs, i + 1, m, nd, h1, h2, hk => by
  show bindC kindOf ((p, w) :: P.zip vs) m x = _
  unfold bindC
  exact tX (i := i) (List.nodup_cons.mp nd).2 (by simpa using h1) (by simpa using h2) hk
def start (N : List Str) (vs : List V) : St := vs.map some ++ List.replicate (N.length - vs.length) none
def fO (CX : CXT) (P : Program) (w : World) (K : PySem.W.Frag) (mg : Str → Option Value) (base : Heap) (N : List Str) (qual : Str) (scope : Scope) (f : Addr) (cd : Value) (A : Around) (outer : List Env) (s : Shared) (H : Hp) (E : XK) : Cx where
 prog := P
 w := w
 K := K
 mg := mg
 base := base
 A := A.deeper (envOfC qual scope s.heap.objs.size f cd)
 N := N
 s₀ := s
 H₀ := H
 env := envOfC qual scope s.heap.objs.size f cd
 outer := outer
 stack := envOfC qual scope s.heap.objs.size f cd :: outer
 ex := []
 calm := true
 fn := fun _ => true
 pn := []
 xe := fun e s' => wpAny (model P w) (A.deeper (envOfC qual scope s.heap.objs.size f cd)) (leaving (envOfC qual scope s.heap.objs.size f cd) e) (fun _ s'' => CX outer H s E e s'') (fun e' s'' => CX outer H s E e' s'') s'
theorem wA {sc : Scope} {n : Nat} {x : Str} (h : sc.names.lookup x = some .cell) : ∃ c, (cellsFrom n sc.names []).lookup x = some c := by
 have q := PySem.W.cellsFrom_some sc.names n [] (.inl h)
 exact Option.isSome_iff_exists.mp q
theorem sW {CX : CXT} {P : Program} {w : World} {K : PySem.W.Frag} {mg : Str → Option Value} {base : Heap} {N ps : List Str} {qual : Str} {scope : Scope} {f : Addr} {cd : Value} {A : Around} {outer : List Env} {s s1 : Shared} {H : Hp} {E : XK} {us : List Value} {vs : List V}
  (S : aC N ps scope) (hd : A.handled = none) (e0 : xm P w K mg base A outer s H) (hl : vs.length = ps.length) (r : Vals vs us)
  (x : InCallC s s.heap.objs.size (bindL (envOfC qual scope s.heap.objs.size f cd).kindOf (ps.zip us) fun _ => none) (cellsFrom (s.heap.objs.size + 1) scope.names []) (bindC (envOfC qual scope s.heap.objs.size f cd).kindOf (ps.zip us) fun _ => none) s1) :
  Inv (fO CX P w K mg base N qual scope f cd A outer s H E) [] (start N vs) H s1 := by
 have hpl : ps.length ≤ N.length := by have := congrArg List.length S.pre; rw [List.length_take] at this; omega
 obtain ⟨h1, tk, rfl, hk⟩ := x.done
 have noA : ∀ b : Addr, b ∉ (fO CX P w K mg base N qual scope f cd A outer s H E).ex := fun b z => absurd (show b ∈ ([] : List Addr) from z) (by simp)
 refine ⟨⟨e0.mod, S.kind, rfl, rfl, Nat.le_refl _, fun y z c h1 h2 => ?_, fun y hy => ?_, fun y c _ h => ?_, fun _ => hd, Around.frames_deeper e0.frames, .inr ⟨rfl, rfl⟩, fun b z => absurd z (noA b), e0.bs, e0.bsz, fun b _ _ => noA b, fun b z => absurd z (noA b), e0.funs, e0.frf⟩,
  rfl, e0.bare, Un.kept hk, ⟨_, x.toInCall.ns, fun i y v h1 h2 h3 => ?_⟩, fun y c h => ⟨_, x.cell y c h⟩, e0.hok.fresh (Nat.le_refl _), fun y c h => ?_, fun p hp => absurd (show p ∈ ([] : List (Addr × Obj)) from hp) (by simp), e0.hok.kept hk, ?_⟩
 ·exact name_of_addr x.apart (PySem.mem_of_lookup h1) (PySem.mem_of_lookup h2)
 ·have hy : scope.names.lookup y = some .cell ∨ scope.names.lookup y = some .free := hy
  rcases hy with hy | hy
  ·exact wA hy
  ·exact absurd rfl (S.nofree _ (PySem.mem_of_lookup hy))
 ·exact Nat.le_of_lt (x.above y c (PySem.mem_of_lookup h))
 ·have hi : i < vs.length := by
   unfold start at h2
   by_cases hi : i < vs.length
   ·exact hi
   ·rw [List.getElem?_append_right (by simpa using hi)] at h2
    rw [List.getElem?_replicate] at h2
    split at h2 <;> cases h2
  have ha : vs[i]? = some v := by
   unfold start at h2
   rw [List.getElem?_append_left (by simpa using hi), List.getElem?_map] at h2
   cases e : vs[i]? with
   | none => rw [e] at h2; cases h2
   | some a => rw [e] at h2; cases h2; rfl
  obtain ⟨u, hu, rv⟩ := r.get ha
  have hp : ps[i]? = some y := by
   rw [← S.pre, List.getElem?_take_of_lt (by omega)]; exact h1
  have ndP : ps.Nodup := by rw [← S.pre]; exact S.nd.sublist (List.take_sublist _ _)
  refine ⟨u, rv, ?_⟩
  rcases S.par y (List.mem_of_getElem? hp) with k | k
  ·exact .inl ⟨k, tR ndP hp hu k⟩
  ·obtain ⟨c, e⟩ := wA (n := s.heap.objs.size + 1) k
   refine .inr ⟨.inl k, c, e, ?_⟩
   have q := x.cell y c e
   rw [tX ndP hp hu (by show scope.names.lookup y ≠ _; rw [k]; decide)] at q
   exact q
 ·exact e0.hok.fresh (Nat.le_of_lt (x.above y c (PySem.mem_of_lookup h)))
 ·unfold start
  show _ = N.length
  rw [List.length_append, List.length_map, List.length_replicate]
  omega
theorem Ef {CX : CXT} {P : Program} {w : World} {K : PySem.W.Frag} {mg : Str → Option Value} {base : Heap} {k : Nat} {f : Addr} {name qual : Str} {params : Arguments} {body : List Stmt} {scope : Scope} {dV kV doc pm cdv ct oc : Value} {an od : Option Addr}
  {osl : Array (Option Value)} {N ps : List Str} {sp : Sp} (lk : K.lookup f = some ⟨oc, od, .func (PySem.W.fnOf name qual params body scope dV kV doc pm an cdv ct), osl⟩) (hcd : PySem.W.codeIn K cdv qual = true) (S : aC N ps scope)
  (len : ∀ vs H Q E, sp vs H Q E → vs.length = ps.length)
  (hbody : ∀ (A : Around) (outer : List Env) (s : Shared) (H : Hp) (vs : List V) (Q : VK) (E : XK), dF k (A.deeper (envOfC qual scope s.heap.objs.size f cdv)) → sp vs H Q E →
   ∃ t, PSs (fO CX P w K mg base N qual scope f cdv A outer s H E) body t ∧ t { nx := fun _ H' => Q .non H', rt := Q } (start N vs) H) :
  bj P w K mg base CX (k + 1) f (PySem.W.fnOf name qual params body scope dV kV doc pm an cdv ct) ps sp := by
 refine ⟨len, fun A outer s H args us vs Q E hr e0 hb r hsp => ?_⟩
 have hl := len _ _ _ _ hsp
 have KX : K.In s.heap := e0.mod.kin.keeps fun b o e => (e0.bs b o e).1
 have lim : s.heap.NoLimit := e0.mod.nolimit.keeps fun b o e => (e0.bs b o e).1
 have hkind : ∀ y ∈ ps.zip us, scope.names.lookup y.1 = some .local ∨ (scope.names.lookup y.1 = some .cell ∧ ((cellsFrom (s.heap.objs.size + 1) scope.names []).lookup y.1).isSome = true) := fun ⟨n, v⟩ hy => by
  rcases S.par n (List.of_mem_zip hy).1 with q | q
  ·exact .inl q
  ·exact .inr ⟨q, PySem.W.cellsFrom_some _ _ _ (.inl q)⟩
 refine codeAny_call_function hr.depth (KX _ _ lk) rfl S.co S.gen rfl (PySem.W.codeRec_of KX hcd) (hb _ _ _ _ ?_)
 refine wpAny_newFunctionEnv_cells S.kind hkind fun env he s1 x => ?_
 subst he
 refine ⟨lim.keeps x.toInCall.keep, codeAny_func ?_⟩
 obtain ⟨t, ht, hq⟩ := hbody A outer s H vs Q E (hr.deeper _) hsp
 have I : Inv (fO CX P w K mg base N qual scope f cdv A outer s H E) [] (start N vs) H s1 := sW S hr.hd e0 hl r x
 refine wpAny_mono (ht [] s1 (start N vs) H _ I hq) (fun fl s' hs => ?_) fun e s' hs => hs
 have fin : ∀ {σ' : St} {H' : Hp} {v : V} {u : Value}, Inv (fO CX P w K mg base N qual scope f cdv A outer s H E) [] σ' H' s' → RelV v u → Q v H' → CE outer P w H s Q u s' :=
  fun {σ' H' v u} J rv q => ⟨v, H', J.os, J.bare, J.base, J.hok, rv, q⟩
 cases fl with
 | ret u =>
  obtain ⟨v, σ', H', J, rv, q⟩ := hs
  exact fin J rv q
 | next =>
  obtain ⟨σ', H', J, q⟩ := hs
  exact fin (v := V.non) (u := Value.none) J rfl q
 | brk =>
  obtain ⟨_, _, _, q⟩ := hs
  exact False.elim q
 | cont =>
  obtain ⟨_, _, _, q⟩ := hs
  exact False.elim q
end L2
namespace L2
open PySem PySem.Spec PyProof.Rows
section
variable {X : Cx} {x : Str} {p pos : Pos} {e : Expr} {es : List Expr} {t : TA} {id T : String} {r : List V → Hp → VK → Prop}
def tCB (r : List V → Hp → VK → Prop) (t : TA) : TE := fun σ H Q => t σ H fun vs H1 => r vs H1 Q
theorem aU (hc : gP X (.builtin id) r) (hg : Gl X x) (hm : X.mg x = none) (hv : bootBuiltins x = some (.builtin id)) (ha : PA X (e :: es) t) (hn : x ≠ "__name__" := by decide) (hdb : (x == ("__debug__" : Str)) = false := by decide)
  (he : starEach (e :: es) X.env = (false, eval e X.env) :: starEach es X.env := by rfl) (hpl : (backTo pos (starEach es X.env)).any (·.1) = false := by rfl) : PE X (.Call (.Name x p) (e :: es) [] pos) (tCB r t) := by
 intro pins s σ H Q I h
 refine wpAny_Call_Name_kw (dC I hg hm hv ?_ hn hdb)
 exact PyProof.Rows.callWith_builtin1 (thn (ha pos pins s σ H _ I h) fun us s1 ⟨vs, H1, I1, r1, q1⟩ => hc pins s1 σ H1 vs us Q I1 r1 q1) he hpl
theorem fL (hc : gP X (.type T) r) (hg : Gl X x) (hm : X.mg x = none) (hv : bootBuiltins x = some (.type T)) (ha : PA X (e :: es) t) (hn : x ≠ "__name__" := by decide) (hdb : (x == ("__debug__" : Str)) = false := by decide)
  (he : starEach (e :: es) X.env = (false, eval e X.env) :: starEach es X.env := by rfl) (hpl : (backTo pos (starEach es X.env)).any (·.1) = false := by rfl) : PE X (.Call (.Name x p) (e :: es) [] pos) (tCB r t) := by
 intro pins s σ H Q I h
 refine wpAny_Call_Name_kw (dC I hg hm hv ?_ hn hdb)
 exact PyProof.Rows.callWith_type1 (thn (ha pos pins s σ H _ I h) fun us s1 ⟨vs, H1, I1, r1, q1⟩ => hc pins s1 σ H1 vs us Q I1 r1 q1) he hpl
end
end L2
namespace HT
open PySem PyProof.Rows
section
open PySem.SeqAt
open PySem.AutoSeq1 (wpAny_loadPart')
open PySem.MeetsSeq PySem.MeetsSeq2 PySem.MeetsSeq3
end
section
variable {prog : Program} {w : World} {A : Around} {E : Value → Shared → Prop} {s : Shared}
def sIx (n d : Nat) : Option Int → Nat
 | none => d
 | some v => if v < 0 then (v + (n : Int)).toNat else min v.toNat n
theorem vB (n d : Nat) : sIx n d none = d := rfl
theorem pZ (n d k : Nat) : sIx n d (some (k : Int)) = min k n := by
 show (if (k : Int) < 0 then ((k : Int) + (n : Int)).toNat else min (k : Int).toNat n) = min k n
 rw [if_neg (by omega), Int.toNat_natCast]
end
end HT
namespace L2
open PySem PySem.Spec PyProof.Rows
abbrev TO := St → Hp → (Option Int → Hp → Prop) → Prop
def PO (X : Cx) (e : Option Expr) (t : TO) : Prop :=
 ∀ (pins : List (Addr × Obj)) (s : Shared) (σ : St) (H : Hp) (Q : Option Int → Hp → Prop), Inv X pins σ H s → t σ H Q →
  wpAny (model X.prog X.w) X.A (evalPart e X.env) (fun u s' => ∃ o H', Inv X pins σ H' s' ∧ IsPart u o ∧ Q o H') X.xe s
def Dg : TO := fun _ H Q => Q none H
def G8 (t : TE) : TO := fun σ H Q => t σ H fun x H1 => ∃ i, x = .int i ∧ Q (some i) H1
theorem intsAre_of {ns : List Int} : ∀ {us : List Value}, Vals (ns.map V.int) us → IntsAre us ns := by
 induction ns with
 | nil => intro us r; rw [List.map_nil] at r; cases r; exact .nil
 | cons n ns ih =>
  intro us r
  rw [List.map_cons] at r
  cases r with
  | cons r1 r2 =>
   obtain ⟨t, e⟩ := r1
   subst e
   exact .cons n t (ih r2)
section
variable {X : Cx} {e : Expr} {te : TE} {lo hi : Option Expr} {tl th : TO} {pos p2 : Pos}
theorem lU : PO X none Dg := by
 intro pins s σ H Q I h
 rw [evalPart_none]
 exact wpAny_pure ⟨none, H, I, .none, h⟩
theorem iV (h : PE X e te) : PO X (some e) (G8 te) := by
 intro pins s σ H Q I hw
 rw [evalPart_some]
 refine thn (h pins s σ H _ I hw) fun u s1 ⟨x, H1, I1, r1, q1⟩ => ?_
 obtain ⟨i, rfl, q⟩ := q1
 obtain ⟨t, rfl⟩ := r1
 exact ⟨some i, H1, I1, .int i t, q⟩
def SlR (X : Cx) (r : V → Option Int → Option Int → Hp → VK → Prop) : Prop :=
 ∀ (pins : List (Addr × Obj)) (s : Shared) (σ : St) (H : Hp) (x : V) (v vl vu : Value) (lo hi : Option Int) (sl : Addr) (Q : VK), Inv X pins σ H s → RelV x v → s.heap.IsSliceOf sl vl vu .none → IsPart vl lo → IsPart vu hi → r x lo hi H Q →
  ∃ T id, typeLookup (.type T) "__getitem__" = pure (some (.builtin id)) ∧ s.TypeIs v T ∧ wpAny (model X.prog X.w) X.A (getItem v (.ref sl)) (EP X pins σ Q) X.xe s
def tSl (r : V → Option Int → Option Int → Hp → VK → Prop) (te : TE) (tl th : TO) : TE := fun σ H Q => te σ H fun x H1 => tl σ H1 fun l H2 => th σ H2 fun u H3 => r x l u H3 Q
theorem il {r : V → Option Int → Option Int → Hp → VK → Prop} (hr : SlR X r) (he : PE X e te) (hl : PO X lo tl) (hu : PO X hi th) : PE X (.Subscript e (.Slice lo hi none p2) pos) (tSl r te tl th) := by
 intro pins s σ H Q I h
 refine Subscript_ (thn (he pins s σ H _ I h) fun v s1 ⟨x, H1, I1, r1, q1⟩ => ?_)
 refine wpAny_Slice (thn (hl pins s1 σ H1 _ I1 q1) fun vl s2 ⟨l, H2, I2, pl, q2⟩ => thn (hu pins s2 σ H2 _ I2 q2) fun vu s3 ⟨u, H3, I3, pu, q3⟩ => ?_)
 rw [evalPart_none]
 refine wpAny_pure ?_
 have I4 : Inv X pins σ H3 { s3 with heap := s3.heap.push { cls := .type "slice", data := .fields #[vl, vu, .none] } } := I3.kept (t' := s3.toks) fun b ob q => Heap.get?_push_of_some _ q
 obtain ⟨T, id, hT, ht, hg⟩ := hr pins { s3 with heap := s3.heap.push { cls := .type "slice", data := .fields #[vl, vu, .none] } } σ H3 x v vl vu l u s3.heap.objs.size Q I4 r1 (Heap.IsSliceOf.new ..) pl pu q3
 show wpAny (model X.prog X.w) X.A (subscriptTail e (.Slice lo hi none p2) v (.ref s3.heap.objs.size)) (EP X pins σ Q) X.xe { s3 with heap := s3.heap.push { cls := .type "slice", data := .fields #[vl, vu, .none] } }
 exact tail_any (ops := [.ref s3.heap.objs.size, v]) ht hT hg (by with_unfolding_all rfl)
def jo (xs : List V) (lo hi : Option Int) : List V := (xs.drop (HT.sIx xs.length 0 lo)).take (HT.sIx xs.length xs.length hi - HT.sIx xs.length 0 lo)
theorem wM (xs : List V) (lo hi : Option Int) : (jo xs lo hi).length ≤ xs.length := by
 unfold jo
 rw [List.length_take, List.length_drop]
 omega
end
end L2
namespace L2
open PySem PySem.Spec PyProof.Rows
def ixN (n : Nat) (i : Int) : Option Nat := if 0 ≤ i then (if i < n then some i.toNat else none) else if -(n : Int) ≤ i then some (i + n).toNat else none
def atI {α : Type} (xs : List α) (i : Int) : Option α := (ixN xs.length i).bind fun j => xs[j]?
theorem yW {n : Nat} {i : Int} {j : Nat} (h : ixN n i = some j) : seqIndex? i n = some j ∧ j < n ∧ -(n : Int) ≤ i ∧ i < n := by
 unfold ixN at h
 by_cases h0 : 0 ≤ i
 ·rw [if_pos h0] at h
  by_cases h1 : i < n
  ·rw [if_pos h1] at h
   have e : i.toNat = j := Option.some.inj h
   exact ⟨by rw [seqIndex_of h0 h1, e], by omega, by omega, h1⟩
  ·rw [if_neg h1] at h; cases h
 ·rw [if_neg h0] at h
  by_cases h1 : -(n : Int) ≤ i
  ·rw [if_pos h1] at h
   have e : (i + n).toNat = j := Option.some.inj h
   exact ⟨by rw [seqIndex_neg (by omega) h1, e], by omega, h1, by omega⟩
  ·rw [if_neg h1] at h; cases h
theorem za {α : Type} {xs : List α} {i : Int} {v : α} (h : atI xs i = some v) : ∃ j, seqIndex? i xs.length = some j ∧ xs[j]? = some v ∧ j < xs.length ∧ -(xs.length : Int) ≤ i ∧ i < xs.length := by
 unfold atI at h
 cases e : ixN xs.length i with
 | none => rw [e] at h; cases h
 | some j =>
  rw [e] at h
  obtain ⟨h1, h2, h3, h4⟩ := yW e
  exact ⟨j, h1, h, h2, h3, h4⟩
theorem zc {α : Type} {xs : List α} {j : Nat} {v : α} (h : xs[j]? = some v) : atI xs (j : Int) = some v := by
 have hj : j < xs.length := (List.getElem?_eq_some_iff.mp h).1
 have e : ixN xs.length (j : Int) = some j := by
  unfold ixN
  rw [if_pos (by omega), if_pos (by omega)]; simp
 unfold atI; rw [e]; exact h
theorem mU {α : Type} (xs : List α) (v : α) : atI (xs ++ [v]) (-1) = some v := by
 have hl : (xs ++ [v]).length = xs.length + 1 := by simp
 have e : ixN (xs ++ [v]).length (-1) = some xs.length := by
  unfold ixN
  rw [hl, if_neg (by decide), if_pos (by omega)]
  congr 1
  omega
 unfold atI
 rw [e]
 show (xs ++ [v])[xs.length]? = some v
 simp
def Dj (b : Expr) : Prop := ∀ o i, subscripted b false o i = operate [o, i] (getItem o i)
def IxR (X : Cx) (r : R2) : Prop :=
 ∀ (value slice : Expr) (pins : List (Addr × Obj)) (s : Shared) (σ : St) (H : Hp) (x y : V) (v u : Value) (Q : VK), Inv X pins σ H s → RelV x v → RelV y u → r x y H Q →
  subscripted slice false v u = operate [v, u] (getItem v u) → wpAny (model X.prog X.w) X.A (subscriptTail value slice v u) (EP X pins σ Q) X.xe s
def MtR (X : Cx) (id : String) (r : V → List V → Hp → VK → Prop) : Prop :=
 ∀ (pins : List (Addr × Obj)) (s : Shared) (σ : St) (H : Hp) (x : V) (xs : List V) (v : Value) (us : List Value) (Q : VK), Inv X pins σ H s → RelV x v → Vals xs us → r x xs H Q →
  wpAny (model X.prog X.w) X.A (call (.builtin id) (v :: us)) (EP X pins σ Q) X.xe s
section
variable {X : Cx} {a b : Expr} {ta tb : TE} {pos : Pos}
theorem aQ {r : R2} (hr : IxR X r) (ha : PE X a ta) (hb : PE X b tb) (hs : Dj b) : PE X (.Subscript a b pos) (tOp r ta tb) := by
 intro pins s σ H Q I h
 exact Subscript_ (FT ha hb I h fun v u s2 x y H2 I2 rx ry q => hr a b pins s2 σ H2 x y v u Q I2 rx ry q (hs _ _))
def Hx (K : PySem.W.Frag) : R2 := fun x y H Q => ∃ p xs i v, x = .ref p ∧ y = .int i ∧ SqL K H p xs ∧ atI xs i = some v ∧ Q v H
def Et (K : PySem.W.Frag) : R2 := fun x y H Q => ∃ p xs i v, x = .ref p ∧ y = .int i ∧ SqT K H p xs ∧ atI xs i = some v ∧ Q v H
theorem aR : IxR X (Hx X.K) := by
 intro value slice pins s σ H x y v u Q I rx ry h hs
 obtain ⟨p, xs, i, z, rfl, rfl, hq, he, q⟩ := h
 cases rx
 obtain ⟨t, rfl⟩ := ry
 obtain ⟨its, r, pl, hz⟩ := I.list hq
 obtain ⟨j, h1, h2, h3, h4, h5⟩ := za he
 obtain ⟨w, ew, rw'⟩ := r.get h2
 have hl := r.length
 have hn := uO
 have fin : EP X pins σ Q w s := ⟨z, H, I, rw', q⟩
 by_cases h0 : 0 ≤ i
 ·have hj : i.toNat = j := by
   rw [seqIndex_of h0 h5] at h1
   exact Option.some.inj h1
  exact item_listR pl.isList h0 (by omega) (by rw [hj]; simpa using ew) fin hs
 ·have hj : (i + (its.toArray.size : Int)).toNat = j := by
   rw [seqIndex_neg (by omega) h4] at h1
   rw [List.size_toArray, ← hl]
   exact Option.some.inj h1
  exact subscriptTail_builtinR (x := w) pl.isList.typeIs slot_list_getitem.lookup
   (wpAny_getItem_list_neg (Q := fun r s' => r = w ∧ EP X pins σ Q r s') pl.isList (by omega) (by rw [List.size_toArray] <;> omega) (by omega) (by rw [hj]; simpa using ew) ⟨rfl, fin⟩) hs
theorem bC : IxR X (Et X.K) := by
 intro value slice pins s σ H x y v u Q I rx ry h hs
 obtain ⟨p, xs, i, z, rfl, rfl, hq, he, q⟩ := h
 cases rx
 obtain ⟨t, rfl⟩ := ry
 obtain ⟨its, r, pl, hz⟩ := I.tuple hq
 obtain ⟨j, h1, h2, h3, h4, h5⟩ := za he
 obtain ⟨w, ew, rw'⟩ := r.get h2
 have hl := r.length
 have hn := uO
 have fin : EP X pins σ Q w s := ⟨z, H, I, rw', q⟩
 exact subscriptTail_builtinR (x := w) pl.typeIs slot_tuple_getitem.lookup
  (getItem_tuple (j := j) (Q := fun r s' => r = w ∧ EP X pins σ Q r s') pl (by omega) (by omega) (by rw [List.size_toArray, ← hl]; exact h1) (by simpa using ew) ⟨rfl, fin⟩) hs
theorem xX (its : List Value) (n j : Nat) (u : Value) : Obj.mapSeq (·.setIfInBounds j u) { cls := .type "list", data := .seq its.toArray n } = { cls := .type "list", data := .seq (its.set j u).toArray n } := by
 simp [Obj.mapSeq]
theorem Inv.lst {pins : List (Addr × Obj)} {σ : St} {H : Hp} {s : Shared} {p : Addr} {xs : List V} (I : Inv X pins σ H s) (h : H p = some (.lst xs)) :
  ∃ (its : List Value) (n : Nat), Vals xs its ∧ s.heap.get? p = some { cls := .type "list", data := .seq its.toArray n } ∧ xs.length ≤ sizeLine := by
 obtain ⟨z, its, n, r, e⟩ := I.hok p _ h
 exact ⟨its, n, r, e, z⟩
theorem Inv.lstUpd {pins : List (Addr × Obj)} {σ : St} {H : Hp} {s : Shared} {p : Addr} {xs ys : List V} {its its' : List Value} {n n' : Nat} {f : Obj → Obj} (I : Inv X pins σ H s) (h : H p = some (.lst xs))
  (ho : s.heap.get? p = some { cls := .type "list", data := .seq its.toArray n }) (hf : f { cls := .type "list", data := .seq its.toArray n } = { cls := .type "list", data := .seq its'.toArray n' }) (r : Vals ys its') (hz : ys.length ≤ sizeLine) (t : Nat) :
  Inv X pins σ (upd H p (.lst ys)) { s with heap := s.heap.update p f, toks := t } := by
 have e : (s.heap.update p f).get? p = some { cls := .type "list", data := .seq its'.toArray n' } := by
  rw [Heap.get?_update_self f ho (by rw [hf] <;> rfl), hf]
 refine I.write (x := p) (e := p) (by rw [h]; trivial) (.inl rfl) (fun b u hb q => (Heap.get?_update_other _ _ (Ne.symm hb)).trans q) ⟨_, e⟩ ?_
 exact ⟨hz, its', n', r, e⟩
def Gu : V → V → V → Hp → (Hp → Prop) → Prop := fun o i v H Q => ∃ p xs k j, o = .ref p ∧ i = .int k ∧ H p = some (.lst xs) ∧ ixN xs.length k = some j ∧ Q (upd H p (.lst (xs.set j v)))
theorem set_list : G5 X Gu := by
 intro pins s σ H o i v ov iv u Q I ro ri rv h
 obtain ⟨p, xs, k, j, rfl, rfl, hp, hj, q⟩ := h
 cases ro
 obtain ⟨t, rfl⟩ := ri
 obtain ⟨its, n, r, ho, hz⟩ := I.lst hp
 obtain ⟨h1, h2, h3, h4⟩ := yW hj
 have hl := r.length
 have hn := uO
 have I' : Inv X pins σ (upd H p (.lst (xs.set j v))) { s with heap := s.heap.update p (Obj.mapSeq (·.setIfInBounds j u)) } :=
  I.lstUpd hp ho (xX its n j u) (r.set rv j) (by rw [List.length_set]; exact hz) s.toks
 by_cases h0 : 0 ≤ k
 ·have hk : k.toNat = j := by
   rw [seqIndex_of h0 h4] at h1
   exact Option.some.inj h1
  exact PySem.W.ki_setAt ho h0 (by omega) (by rw [List.size_toArray, ← hl]; exact h4) (by rw [hk]; exact ⟨_, I', q⟩)
 ·have hk : (k + (its.toArray.size : Int)).toNat = j := by
   rw [seqIndex_neg (by omega) h3] at h1
   rw [List.size_toArray, ← hl]
   exact Option.some.inj h1
  exact PySem.W.ki_setBack ho (by omega) (by rw [List.size_toArray, ← hl]; exact h3) (by omega) (by rw [hk]; exact ⟨_, I', q⟩)
theorem uL (lo hi : Option Int) (n : Nat) : (sliceBounds lo hi none n).1 = ((HT.sIx n 0 lo : Nat) : Int) ∧ (sliceBounds lo hi none n).2.1 = ((HT.sIx n n hi : Nat) : Int) ∧ (sliceBounds lo hi none n).2.2 = 1 := by
 refine ⟨?_, ?_, rfl⟩
 ·cases lo with
  | none => simp [sliceBounds, HT.sIx]
  | some i =>
   simp only [sliceBounds, HT.sIx, Option.getD_none, show (1 : Int) > 0 by decide, if_true]
   by_cases h : i < 0
   ·simp only [h, if_true] <;> omega
   ·simp only [h, if_false] <;> omega
 ·cases hi with
  | none => simp [sliceBounds, HT.sIx]
  | some i =>
   simp only [sliceBounds, HT.sIx, Option.getD_none, show (1 : Int) > 0 by decide, if_true]
   by_cases h : i < 0
   ·simp only [h, if_true] <;> omega
   ·simp only [h, if_false] <;> omega
theorem sI (its : List Value) (lo hi : Option Int) : slicePick its.toArray lo hi none = ((its.drop (HT.sIx its.length 0 lo)).take (HT.sIx its.length its.length hi - HT.sIx its.length 0 lo)).toArray := by
 obtain ⟨h1, h2, h3⟩ := uL lo hi its.toArray.size
 unfold slicePick
 rw [h1, h2, h3]
 simp only [sliceRange_one, pick_run, List.size_toArray] <;> rfl
def G6 (K : PySem.W.Frag) : V → Option Int → Option Int → Hp → VK → Prop := fun x lo hi H Q => ∃ a xs, x = .ref a ∧ SqL K H a xs ∧ ∀ p, H p = none → Q (.ref p) (upd H p (.lst (jo xs lo hi)))
theorem jQ : SlR X (G6 X.K) := by
 intro pins s σ H x v vl vu lo hi sl Q I rx hs pl pu h
 obtain ⟨a, xs, rfl, hx, q⟩ := h
 cases rx
 obtain ⟨its, r, ht, hz⟩ := I.list hx
 have hlen := r.length
 refine ⟨"list", _, slot_list_getitem.lookup, ht.isList.typeIs, ?_⟩
 refine wpAny_getItem_list_slice ht.isList hs pl pu .none (by simp) ?_ (by rw [List.size_toArray] <;> omega)
 rw [sI, ← hlen]
 refine ⟨.ref s.heap.objs.size, _, I.laid (t' := s.toks) (o := .lst (jo xs lo hi)) (fun b ob q => Heap.get?_push_of_some _ q) (Nat.le_refl _) ?_, rfl, q _ (I.hok.fresh (Nat.le_refl _))⟩
 exact ⟨Nat.le_trans (wM xs lo hi) hz, _, 0, (r.drop (HT.sIx xs.length 0 lo)).take (HT.sIx xs.length xs.length hi - HT.sIx xs.length 0 lo), Heap.get?_push_size _ rfl⟩
theorem bc : gP X (.builtin "len") (fun xs H Q => ∃ p ys, xs = [.ref p] ∧ (SqL X.K H p ys ∨ SqT X.K H p ys) ∧ Q (.int ys.length) H) := by
 intro pins s σ H xs us Q I r h
 obtain ⟨p, ys, rfl, hq, q⟩ := h
 obtain ⟨u, rfl, rx⟩ := vals1 r
 cases rx
 have hn := uO
 rcases hq with hq | hq
 ·obtain ⟨its, r', pl, hz⟩ := I.list hq
  have hlen := r'.length
  exact Calls.call_len_list pl.isList (by simp only [List.size_toArray] <;> omega) ⟨.int ys.length, H, I.tok _, ⟨s.toks + 1, by rw [List.size_toArray, hlen]⟩, q⟩
 ·obtain ⟨its, r', pl, hz⟩ := I.tuple hq
  have hlen := r'.length
  exact len_tuple pl (by simp only [List.size_toArray] <;> omega) ⟨.int ys.length, H, I.tok _, ⟨s.toks + 1, by rw [List.size_toArray, hlen]⟩, q⟩
theorem iU : gP X (.type "list") (fun xs H Q => ∃ p ys, xs = [.ref p] ∧ (SqL X.K H p ys ∨ SqT X.K H p ys) ∧ ∀ l, H l = none → Q (.ref l) (upd H l (.lst ys))) := by
 intro pins s σ H xs us Q I r h
 obtain ⟨p, ys, rfl, hq, q⟩ := h
 obtain ⟨u, rfl, rx⟩ := vals1 r
 cases rx
 have fin : ∀ (its : List Value), Vals ys its → ys.length ≤ sizeLine → ∀ (h' : Heap) (c' : Nat), (∀ b o', s.heap.get? b = some o' → h'.get? b = some o') →
   h'.get? s.heap.objs.size = some { cls := .type "list", dict := none, data := .seq its.toArray c', slots := #[] } → EP X pins σ Q (.ref s.heap.objs.size) { s with heap := h' } := fun its r' hz h' c' kp e =>
  ⟨.ref s.heap.objs.size, _, I.laid (t' := s.toks) kp (Nat.le_refl _) (show bN X.prog X.w _ h' _ (.lst ys) from ⟨hz, its, c', r', e⟩), rfl, q _ (I.hok.fresh (Nat.le_refl _))⟩
 rcases hq with hq | hq
 ·obtain ⟨its, r', pl, hz⟩ := I.list hq
  have hlen := r'.length
  obtain ⟨o, ho, hc, n, hd⟩ := pl.isList
  exact call_list_seq p (.inl rfl) ho hc hd (fun h' c' kp e => fin its r' hz h' c' kp e) (by simp only [List.size_toArray] <;> omega)
 ·obtain ⟨its, r', pl, hz⟩ := I.tuple hq
  have hlen := r'.length
  obtain ⟨o, ho, hc, n, hd⟩ := pl
  exact call_list_seq p (.inr rfl) ho hc hd (fun h' c' kp e => fin its r' hz h' c' kp e) (by simp only [List.size_toArray] <;> omega)
theorem j4 : gP X (.type "tuple") (fun xs H Q => ∃ p ys, xs = [.ref p] ∧ ((SqL X.K H p ys ∧ ∀ l, H l = none → Q (.ref l) (upd H l (.tup ys))) ∨ (SqT X.K H p ys ∧ Q (.ref p) H))) := by
 intro pins s σ H xs us Q I r h
 obtain ⟨p, ys, rfl, h⟩ := h
 obtain ⟨u, rfl, rx⟩ := vals1 r
 cases rx
 rcases h with ⟨hq, q⟩ | ⟨hq, q⟩
 ·obtain ⟨its, r', pl, hz⟩ := I.list hq
  have hlen := r'.length
  refine call_tuple_list pl.isList (fun h' kp => ?_) (by simp only [List.size_toArray] <;> omega)
  have I1 : Inv X pins σ H { s with heap := h' } := I.kept (t' := s.toks) kp
  have I2 : Inv X pins σ (upd H h'.objs.size (.tup ys)) { s with heap := h'.push { cls := .type "tuple", data := .seq its.toArray } } :=
   I1.laid (t' := s.toks) (fun b o e => Heap.get?_push_of_some _ e) (Nat.le_refl _) (show bN X.prog X.w _ _ _ (.tup ys) from ⟨hz, its, r', IsTup.new _ _⟩)
  exact ⟨.ref h'.objs.size, _, I2, rfl, q _ (I1.hok.fresh (Nat.le_refl _))⟩
 ·obtain ⟨its, r', pl, hz⟩ := I.tuple hq
  exact call_tuple_same pl ⟨.ref p, H, I, rfl, q⟩
def tyV (K : PySem.W.Frag) (T : String) (x : V) (H : Hp) : Prop := match x with
 | .str _ => T = "str"
 | .int _ => T = "int"
 | .ref p => (T = "list" ∧ ∃ xs, SqL K H p xs) ∨ (T = "tuple" ∧ ∃ o, K.lookup p = some o ∧ o.cls = .type "tuple" ∧ o.dict = none) ∨
   (T = "dict" ∧ ((∃ kvs, H p = some (.dK kvs)) ∨ ∃ kvs, H p = some (.dT kvs))) ∨ (T = "set" ∧ ∃ S n, H p = some (.set S n))
 | _ => False
theorem Eo {pins : List (Addr × Obj)} {σ : St} {H : Hp} {s : Shared} {T : String} {x : V} {v : Value} (I : Inv X pins σ H s) (r : RelV x v) (ty : tyV X.K T x H) :
  s.TypeIs v T ∧ ∀ a, v = .ref a → ∃ ob, s.heap.get? a = some ob ∧ ob.dict = none := by
 cases x with
 | str z =>
  obtain ⟨t, rfl⟩ := r
  cases (show T = "str" from ty)
  exact ⟨typeIs_str s z t, fun _ e => nomatch e⟩
 | int i =>
  obtain ⟨t, rfl⟩ := r
  cases (show T = "int" from ty)
  exact ⟨typeIs_int s i t, fun _ e => nomatch e⟩
 | ref p =>
  cases r
  rcases ty with ⟨rfl, xs, hq⟩ | ⟨rfl, o, hk, hc, hd⟩ | ⟨rfl, hk⟩ | ⟨rfl, S, n, hk⟩
  ·obtain ⟨its, _, pl, _⟩ := I.list hq
   refine ⟨pl.isList.typeIs, fun a e => ?_⟩
   cases e
   obtain ⟨o, n, e, c, hd, _⟩ := pl
   exact ⟨o, e, hd⟩
  ·refine ⟨⟨o, I.kIn p o hk, hc⟩, fun a e => ?_⟩
   cases e
   exact ⟨o, I.kIn _ o hk, hd⟩
  ·have z : ∃ o, s.heap.get? p = some o ∧ o.ExactDict := by
    rcases hk with ⟨kvs, hk⟩ | ⟨kvs, hk⟩
    ·obtain ⟨_, _, _, _, o, _, _, e, ex, _⟩ := I.hok p _ hk
     exact ⟨o, e, ex⟩
    ·obtain ⟨_, _, _, _, o, _, _, e, ex, _⟩ := I.hok p _ hk
     exact ⟨o, e, ex⟩
   obtain ⟨o, e, ex⟩ := z
   refine ⟨⟨o, e, ex.1⟩, fun a e2 => ?_⟩
   cases e2
   exact ⟨o, e, ex.2.1⟩
  ·obtain ⟨o, _, _, _, e, ex, _⟩ := I.hok p _ hk
   refine ⟨⟨o, e, ex.1⟩, fun a e2 => ?_⟩
   cases e2
   exact ⟨o, e, ex.2.1⟩
 | _ => exact False.elim ty
def tBM (K : PySem.W.Frag) (T : String) (r : V → List V → Hp → VK → Prop) (to : TE) (t : TA) : TE := fun σ H Q => to σ H fun x H1 => tyV K T x H1 ∧ t σ H1 fun xs H2 => r x xs H2 Q
variable {o e : Expr} {es : List Expr} {to : TE} {t : TA} {name : Str} {apos cpos : Pos} {T id : String} {r : V → List V → Hp → VK → Prop}
theorem ir (pa : PlainAttrs T) (slot : Slot T name id) (hty : typeOf (.builtin id) = pure (.type "method_descriptor")) (hm : MtR X id r) (ho : PE X o to) (ha : PA X (e :: es) t)
  (hbase : attributeBase o name X.env (eval o X.env) = eval o X.env := by rfl)
  (hfew : ((backTo cpos (starEach (e :: es) X.env)).all (fun x => !x.1) && (backToKw cpos (keywordEach [] X.env)).all (fun x => x.1.isSome)
   && decide ((e :: es).length + ([] : List Keyword).length + (if ([] : List Keyword).isEmpty then 0 else 1) < 30)) = true := by rfl)
  (hline : (apos.endLine == cpos.line) = true := by rfl) (hs : starEach (e :: es) X.env = (false, eval e X.env) :: starEach es X.env := by rfl) (hplain : (backTo cpos (starEach es X.env)).any (·.1) = false := by rfl) :
  PE X (.Call (.Attribute o name apos) (e :: es) [] cpos) (tBM X.K T r to t) := by
 intro pins s σ H Q I h
 refine wpAny_Call_method_late hbase hfew hline rfl (thn (ho pins s σ H _ I h) fun v s1 ⟨x, H1, I1, r1, ty, q1⟩ => ?_)
 obtain ⟨h1, h2⟩ := Eo I1 r1 ty
 refine ⟨T, id, pa, slot, hty, h1, h2, ?_⟩
 have hA := ha cpos pins s1 σ H1 _ I1 q1
 rw [hs] at hA ⊢
 refine Calls.callWith_builtin (by show (false || (backTo cpos (starEach es X.env)).any (·.1)) = false; rw [hplain] <;> rfl) (Calls.evalArgs_plain ?_)
 exact thn hA fun us s2 ⟨vs, H2, I2, r2, q2⟩ => hm pins s2 σ H2 x vs v us Q I2 r1 r2 q2
/- xs.append(e), list.index on a module's tuple .. are MtR facts of 06m -/
end
end L2
namespace L2
open PySem PySem.Spec PyProof.Rows
def MtM (X : Cx) (id : String) (r : V → List V → Hp → VK → Prop) : Prop :=
 ∀ (pins : List (Addr × Obj)) (s : Shared) (σ : St) (H : Hp) (x : V) (xs : List V) (v : Value) (us : List Value) (Q : VK), Inv X pins σ H s → RelV x v → Vals xs us → r x xs H Q →
  wpAny (model X.prog X.w) X.A (call (.builtin id) (v :: us)) (EP X pins σ Q) X.xe s
theorem Vals.one : ∀ {x : V} {us : List Value}, Vals [x] us → ∃ u, us = [u] ∧ RelV x u
 | _, _, .cons r .nil => ⟨_, rfl, r⟩
theorem Vals.reverse {xs : List V} {us : List Value} (h : Vals xs us) : Vals xs.reverse us.reverse := by
 induction h with
 | nil => exact .nil
 | cons r t ih => rw [List.reverse_cons, List.reverse_cons]; exact Vals.append ih (.cons r .nil)
theorem Vals.rep {xs : List V} {us : List Value} (h : Vals xs us) : ∀ k : Nat, Vals (List.replicate k xs).flatten (List.replicate k us).flatten
 | 0 => .nil
 | k + 1 => by
  rw [List.replicate_succ, List.replicate_succ, List.flatten_cons, List.flatten_cons]
  exact Vals.append h (Vals.rep h k)
theorem foldl_rep (its : List Value) : ∀ (k : Nat) (acc : List Value),
  List.foldl (fun x1 x2 => x1 ++ x2) acc.toArray (List.replicate k its.toArray) = (acc ++ (List.replicate k its).flatten).toArray
 | 0, acc => by simp
 | k + 1, acc => by
  have e : acc.toArray ++ its.toArray = (acc ++ its).toArray := by simp
  have e2 : (acc ++ its) ++ (List.replicate k its).flatten = acc ++ (List.replicate (k + 1) its).flatten := by
   rw [List.replicate_succ, List.flatten_cons, List.append_assoc]
  rw [← e2, ← foldl_rep its k (acc ++ its), ← e, List.replicate_succ, List.foldl_cons]
section
variable {X : Cx} {pins : List (Addr × Obj)} {σ : St} {H : Hp} {s : Shared} {l b : Addr} {xs ys zs : List V}
theorem Inv.lset {its its' : List Value} {n : Nat} {f : Array Value → Array Value} {t' : Nat} (I : Inv X pins σ H s) (hH : H l = some (.lst xs))
  (e : s.heap.get? l = some { cls := .type "list", data := .seq its.toArray n }) (hf : f its.toArray = its'.toArray) (hv : Vals ys its') (hz : ys.length ≤ sizeLine) :
  Inv X pins σ (upd H l (.lst ys)) { s with heap := s.heap.update l (Obj.mapSeq f), toks := t' } := by
 have q := PySem.IsL.update e f
 rw [hf] at q
 refine I.write (x := l) (e := l) (by rw [hH]; exact trivial) (.inl rfl) (fun b' u hb hu => (Heap.get?_update_other s.heap (Obj.mapSeq f) (Ne.symm hb)).trans hu) ⟨_, q⟩ ?_
 exact ⟨hz, its', _, hv, q⟩
theorem Inv.lnew {its : List Value} {t' : Nat} (I : Inv X pins σ H s) (hv : Vals ys its) (hz : ys.length ≤ sizeLine) :
  Inv X pins σ (upd H s.heap.objs.size (.lst ys)) { s with heap := s.heap.push { cls := .type "list", data := .seq its.toArray }, toks := t' } :=
 I.laid (fun _ _ q => Heap.get?_push_of_some _ q) (Nat.le_refl _) ⟨hz, its, 0, hv, Heap.get?_push_size _ rfl⟩
theorem Inv.fresh (I : Inv X pins σ H s) : H s.heap.objs.size = none := I.hok.fresh (Nat.le_refl _)
theorem Inv.lstM (I : Inv X pins σ H s) (hH : H l = some (.lst xs)) : xs.length ≤ sizeLine ∧ ∃ (its : List Value) (n : Nat), Vals xs its ∧ xs.length = its.length ∧ s.heap.get? l = some { cls := .type "list", data := .seq its.toArray n } := by
 obtain ⟨z, its, n, r, e⟩ := I.hok l _ hH
 exact ⟨z, its, n, r, r.length, e⟩
theorem vm {n : Nat} (h : n ≤ sizeLine) : Builtin.List.listTooLong n = false := by
 unfold Builtin.List.listTooLong
 exact decide_eq_false (by omega)
end
section
variable {X : Cx}
def Dt : V → List V → Hp → VK → Prop := fun x vs H Q => ∃ l xs y, x = .ref l ∧ vs = [y] ∧ H l = some (.lst xs) ∧ xs.length < sizeLine ∧ Q .non (upd H l (.lst (xs ++ [y])))
theorem bT : MtM X "list.append" Dt := by
 intro pins s σ H x vs v us Q I rx rv h
 obtain ⟨l, xs, y, rfl, rfl, hH, hz, q⟩ := h
 cases rx
 obtain ⟨u, rfl, ru⟩ := rv.one
 obtain ⟨z, its, n, r, hl, e⟩ := I.lstM hH
 refine call_meets F.slot_list_append ⟨_, e, rfl⟩ F.entry_list_append (F.args_list_append_2 _ _) (PySem.list_append l its.toArray n u (by rw [List.size_toArray]; omega)) ⟨e, ?_⟩
 refine ⟨.non, _, I.lset (its' := its ++ [u]) hH e (by simp) (r.append (.cons ru .nil)) ?_, rfl, q⟩
 rw [List.length_append, List.length_singleton]
 omega
def CN : V → List V → Hp → VK → Prop := fun x vs H Q => ∃ l b xs zs, x = .ref l ∧ vs = [.ref b] ∧ H l = some (.lst xs) ∧ H b = some (.lst zs) ∧ xs.length + zs.length ≤ sizeLine ∧ Q .non (upd H l (.lst (xs ++ zs)))
theorem Al : MtM X "list.extend" CN := by
 intro pins s σ H x vs v us Q I rx rv h
 obtain ⟨l, b, xs, zs, rfl, rfl, hH, hB, hz, q⟩ := h
 cases rx
 obtain ⟨u, rfl, ru⟩ := rv.one
 cases ru
 obtain ⟨z, its, n, r, hl, e⟩ := I.lstM hH
 obtain ⟨z2, its2, n2, r2, hl2, e2⟩ := I.lstM hB
 have hsz : its.toArray.size + its2.toArray.size ≤ sizeLine := by rw [List.size_toArray, List.size_toArray]; omega
 have hlong : ¬ (!its.toArray.isEmpty && Builtin.List.listTooLong (its.toArray.size + its2.toArray.size)) = true := by
  rw [vm hsz, Bool.and_false]
  exact Bool.false_ne_true
 refine call_meets F.slot_list_extend ⟨_, e, rfl⟩ F.entry_list_extend (F.args_list_extend_2 _ _)
  (AutoSeq1.list_extend_list_list_0 l its.toArray n b its2.toArray n2 hlong (by rw [List.size_toArray]; omega) (by omega)) ⟨e, e2, ?_⟩
 refine ⟨.non, _, I.lset (its' := its ++ its2) hH e (by simp) (r.append r2) ?_, rfl, q⟩
 rw [List.length_append]
 omega
def Ht : R2 := fun x y H Q => ∃ l b xs zs, x = .ref l ∧ y = .ref b ∧ H l = some (.lst xs) ∧ H b = some (.lst zs) ∧ xs.length + zs.length ≤ sizeLine ∧ ∀ p, H p = none → Q (.ref p) (upd H p (.lst (xs ++ zs)))
theorem nj : OpR X (binaryOp .Add) Ht := by
 intro pins s σ H x y v u Q I rx ry h
 obtain ⟨l, b, xs, zs, rfl, rfl, hH, hB, hz, q⟩ := h
 cases rx
 cases ry
 obtain ⟨z, its, n, r, hl, e⟩ := I.lstM hH
 obtain ⟨z2, its2, n2, r2, hl2, e2⟩ := I.lstM hB
 refine PySem.P.add_list e e2 ?_ (by rw [List.size_toArray, List.size_toArray]; omega)
 have ea : its.toArray ++ its2.toArray = (its ++ its2).toArray := by simp
 rw [ea]
 exact ⟨.ref _, _, I.lnew (t' := s.toks) (r.append r2) (by rw [List.length_append]; omega), rfl, q _ I.fresh⟩
def GX : R2 := fun x y H Q => ∃ l k xs, x = .ref l ∧ y = .int k ∧ H l = some (.lst xs) ∧ -(2 ^ 63) ≤ k ∧ k < 2 ^ 63 ∧ xs.length * k.toNat ≤ sizeLine ∧
 ∀ p, H p = none → Q (.ref p) (upd H p (.lst (List.replicate k.toNat xs).flatten))
theorem len_rep {α : Type} (xs : List α) (k : Nat) : (List.replicate k xs).flatten.length = k * xs.length := by
 induction k with
 | zero => simp
 | succ k ih => rw [List.replicate_succ, List.flatten_cons, List.length_append, ih, Nat.succ_mul, Nat.add_comm]
theorem ur : OpR X (binaryOp .Mult) GX := by
 intro pins s σ H x y v u Q I rx ry h
 obtain ⟨l, k, xs, rfl, rfl, hH, h1, h2, hz, q⟩ := h
 cases rx
 obtain ⟨t, rfl⟩ := ry
 obtain ⟨z, its, n, r, hl, e⟩ := I.lstM hH
 have hlen : its.toArray.size * k.toNat ≤ sizeLine := by rw [List.size_toArray, ← hl]; exact hz
 have hcap : ¬ its.toArray.size * k.toNat > (2 ^ 63 - 1) / 8 := by
  have : (sizeLine : Nat) ≤ (2 ^ 63 - 1) / 8 := by decide
  omega
 have hfit : ¬ (!Builtin.List.listFitsIndex k) = true := by
  rw [fitsIndex_both h1 h2]
  exact Bool.false_ne_true
 have hlong : ¬ Builtin.List.listTooLong (its.toArray.size * k.toNat) = true := by
  rw [vm hlen]
  exact Bool.false_ne_true
 have hnew : List.foldl (fun x1 x2 => x1 ++ x2) #[] (List.replicate (if its.toArray.isEmpty = true then 0 else k.toNat) its.toArray) = (List.replicate k.toNat its).flatten.toArray := by
  have f0 : ∀ m : Nat, List.foldl (fun x1 x2 => x1 ++ x2) #[] (List.replicate m its.toArray) = (List.replicate m its).flatten.toArray := fun m => by
   have := foldl_rep its m []
   rw [List.nil_append] at this
   exact this
  rw [f0]
  cases its with
  | nil => simp
  | cons a r' => rw [if_neg (by simp)]
 refine wpAny_binaryOp_repeat_ref (T := "list") (U := "int") (by decide) ⟨_, e, rfl⟩ (fun s' => typeIs_int s' k t) noFill_list_mul F.fills_int_mul F.slot_int_rmul repeat_list F.slot_int_index.lookup
  (call_meets F.slot_int_rmul (typeIs_int s k t) F.entry_int_rmul (F.args_int_rmul_2 _ _) (int___rmul___int_list k t l its.toArray n)
   ⟨e, rfl, ⟨_, e, rfl⟩, call_meets F.slot_list_mul ⟨_, e, rfl⟩ F.entry_list_mul (F.args_list_mul_2 _ _) (AutoListH.list___mul___list_int_3 l its.toArray n k t hfit hcap hlong) ⟨e, ?_⟩⟩)
 rw [hnew]
 exact ⟨.ref _, _, I.lnew (t' := s.toks) (r.rep k.toNat) (by rw [len_rep, Nat.mul_comm]; exact hz), rfl, q _ I.fresh⟩
end
section
variable {prog : Program} {w : World} {A : Around} {E : Value → Shared → Prop} {s : Shared}
end
section
variable {X : Cx}
end
end L2
namespace Att
open PySem PySem.W PySem.Calls PyProof.Rows
theorem pQ {P : Params} {h : Heap} : ∀ (ns : List Int) (vs : List Value), WellAll P h vs (ns.map WData.int) → IntsAre vs ns := by
 intro ns
 induction ns with
 | nil =>
  intro vs w
  rw [List.map_nil] at w
  cases w
  exact .nil
 | cons n ns ih =>
  intro vs w
  rw [List.map_cons] at w
  cases w with
  | cons a b =>
   cases a
   exact .cons _ _ (ih _ b)
theorem Ao {l : OpenLaw} {n : Nat} (hn : l.most = some n) {P : Params} {h : Heap} {args : List WData} {vals : List Value}
  (hpre : l.row.toRowW.claim.pre args = true) (hwl : WellAll P h vals args) :
  ∃ a vs ns, vals = [Value.ref a] ∧ args = [WData.list (ns.map WData.int)] ∧ h.get? a = some { cls := .type "list", data := .seq vs.toArray } ∧ IntsAre vs ns ∧ ns.length ≤ n := by
 have hsh : WShape.hasAll [] args [.list .int] = true := (pre_splitW hpre).1
 have hc : l.pre.holds [] { args := args } = true := (pre_splitW hpre).2
 obtain ⟨d, r, rfl, h1, h2⟩ := hasAllW_cons hsh
 obtain rfl := hasAllW_nil h2
 obtain ⟨xs, rfl, h3⟩ := hasW_list h1
 obtain ⟨ns, rfl⟩ := items_int h3
 have hlen : ns.length ≤ n := by
  unfold OpenLaw.pre at hc
  have h4 : (WTm.not (.lt (.lit (.int (n : Int))) (.len (.arg 0)))).holds [] { args := [.list (ns.map .int)] } = true := by
   have h4 := (holds_andW hc).1
   rw [hn] at h4
   exact h4
  have h5 := condW_of h4 (w_not (w_lt w_lit (w_len_list (w_arg rfl))))
  rw [List.length_map] at h5
  refine Nat.le_of_not_lt fun q => ?_
  have q' : (n : Int) < ((ns.length : Nat) : Int) := by omega
  first
   | (rw [decide_eq_true q'] at h5; exact absurd h5 (by decide))
   | (simp at h5; omega)
 cases hwl with
 | cons w1 w2 =>
  cases w2
  cases w1 with
  | list ho hall => exact ⟨_, _, ns, rfl, rfl, ho, pQ ns _ hall, hlen⟩
theorem Aj (l : OpenLaw) (args : List WData) : l.row.toRowW.claim.post args (.bool true) args = true :=
 postW_of (r := l.row.toRowW) (X := (true == true))
  (show WShape.has [] (.bool true) .bool = true by first | rfl | decide | simp [WShape.has, WShape.arms, WShape.armsAll])
  (show (WTm.eq .res (.lit (.bool true))).value [] { args := args, res := some (.bool true), after := args } = some (.bool (true == true)) from w_eq_bool (w_res rfl) w_lit) rfl
theorem attach_call {l : OpenLaw} {n : Nat} {q : Program} {loose : List Str} {XP : (Str → Option Value) → Heap → Prop} {YP : World → Heap → Prop} {d : DefRec}
  (hn : l.most = some n) (hdf : d.params.defaults = [])
  (call : ∀ (w : World) (s₀ s₁ : Shared) (mg mb : Str → Option Value) (fa : Addr) (o : Obj) (pm cd doc : Value) (a : Addr) (vs : List Value) (ns : List Int),
   Ground q loose [] XP w s₀ mg mb s₁.heap → YP w s₁.heap →
   s₁.heap.get? fa = some o → o.data = .func (docDef d.name d.params d.body d.scope pm cd doc) → s₁.heap.CodeRec cd d.name → mg d.name = some (.ref fa) →
   s₁.heap.get? a = some { cls := .type "list", data := .seq vs.toArray } → IntsAre vs ns → ns.length ≤ n → s₁.gens = #[] →
   codeAny (model l.prog w) callerA (.call (.ref fa) ⟨[.ref a], []⟩) (fun r s' => r = .ok (.ret (.bool true)) ∧ OldK s₁.heap s'.heap ∧ s'.os = s₁.os ∧ AllBare s'.gens) s₁) :
  WalkO q loose XP YP l.row.toRowW d [] (fun f vs => PySem.call f vs) := by
 intro w s₀ s₁ mg mb G Y fa o pm cd doc dV kV ho hd hcd hD hmg hg args vals as hpre hlay hrd hwl hlo
 obtain rfl : dV = .none := Dflts.none hD hdf
 obtain rfl : kV = .none := Dflts.noKw hD
 obtain ⟨a, vs, ns, rfl, rfl, hobj, hints, hlen⟩ := Ao hn hpre hwl
 refine enter_call (codeAny_mono (call w s₀ s₁ mg mb fa o pm cd doc a vs ns G Y ho (fd_plain hd) hcd hmg hobj hints hlen hg) fun r s' hq => ?_)
 obtain ⟨rfl, h2, h3, h4⟩ := hq
 exact ⟨.inl ⟨.bool true, .bool true, [], rfl, fun _ => rfl, .bool true, Aj l _, fun _ => ⟨List.Pairwise.nil, fun _ hm => (nomatch hm)⟩⟩, h2, h3, h4⟩
section
variable {prog : Program} {w : World} {A : Around} {E : Value → Shared → Prop} {s : Shared} {K : Frag}
end
end Att
namespace L2
open PySem PySem.Spec PyProof.Rows
theorem tG : ∀ {vs : List Value} {ns : List Int}, IntsAre vs ns → Vals (ns.map V.int) vs
 | _, _, .nil => .nil
 | _, _, .cons n t h => .cons ⟨t, rfl⟩ (tG h)
end L2
namespace L2
open PySem PySem.Spec PyProof.Rows
end L2
/- THE LAST THEOREM (shape; LID, My.* are yours):
   My.Adr: a structure of the addresses that your layer names (classes, functions); My.Txt K t: a structure (Prop) of the equations over K;
   My.txt_mk : {K} {implicit addresses ..} (e1 : nsIn K mainGlobals "law" = some (some (.ref f))) (e2 : K.lookup f = some ⟨oc, od, .func (fnOf "law" "law" params body scope dV kV doc pm an cdv ct), sl⟩) (e3 : codeIn K cdv "law" = true) .. : ∃ t, My.Txt K t
set_option maxRecDepth 100000 in
set_option maxHeartbeats 0 in
theorem PySem.Challenge.cw_LID_holds : PySem.Challenge.rw_LID.Holds := by
 w_on; o_law; k_head; (case hw => w_witness2)
 k_fill
 refine L2.walk_of (l := PySem.Challenge.rw_LID) (n := 63) (k := 40) (x := "script") (CX := fun w => ..) (sp := fun _ => My.sp_law) rfl (by decide) rfl ⟨rfl, by decide, by decide⟩ (fun w h Y => PySem.W.kIn_of Y) ?F ?S ?C
 case F =>
  intro w mg fa h KX G hmg
  have T : ∃ t, My.Txt (L2.KOf KX) t := by
   dsimp only [L2.KOf]                          -- K must stand as «<heap const> w.params» for k_is
   refine' My.txt_mk ?e1 ?e2 ?e3 ..
   (case e1 => PySem.W.k_is)                    -- in the order: a name -> its address -> its object -> its parts
   (case e2 => PySem.W.k_is)
   ..
  obtain ⟨t, T⟩ := T
  have e0 := hmg.symm.trans (PySem.W.mg_of KX G T.law)
  cases e0                                       -- fa is the law's own address
  exact ⟨_, fun s u => .of_eq rfl, fun base kb nb => My.law_fn T kb nb⟩     -- if «.of_eq rfl» comes too early: refine' ⟨_, ?b, fun base kb nb => My.law_fn T kb nb⟩; exact fun s u => .of_eq rfl
 case S => exact fun w H a ns hl hO hS => ..
 case C => exact ..
(the tactic k_is has no namespace: write k_is) -/
namespace L2
open PySem PySem.Spec PyProof.Rows
def defArgs (s : Stmt) : Arguments := match s with
 | .FunctionDef _ a _ _ _ _ _ _ _ _ => a
 | _ => { posonlyargs := [], args := [], vararg := none, kwonlyargs := [], kw_defaults := [], kwarg := none, defaults := [] }
def defBody (s : Stmt) : List Stmt := match s with
 | .FunctionDef _ _ b _ _ _ _ _ _ _ => b
 | _ => []
def defScope (s : Stmt) : Scope := match s with
 | .FunctionDef _ _ _ _ _ _ sc _ _ _ => sc
 | _ => { kind := .function, names := [], isGenerator := false, isCoroutine := false }
abbrev CX0 : CXT := fun _ _ _ _ _ _ => False
abbrev E0 : XK := fun _ _ _ => False
theorem aK {X : Cx} : oJ CX0 X E0 := fun _ _ _ _ _ _ _ h => h.elim
structure Fun (K : PySem.W.Frag) (x qual : Str) (st : Stmt) (f : Addr) (fd : FuncData) : Prop where
 ex : ∃ (oc : Value) (od : Option Addr) (kV doc pm : Value) (an : Option Addr) (cdv ct : Value) (osl : Array (Option Value)),
  fd = PySem.W.fnOf x qual (defArgs st) (defBody st) (defScope st) .none kV doc pm an cdv ct ∧ K.lookup f = some ⟨oc, od, .func fd, osl⟩ ∧ PySem.W.codeIn K cdv qual = true
 kp : PySem.W.keepIn K (.ref f) = true
section
variable {P : Program} {w : World} {K : PySem.W.Frag} {mg : Str → Option Value} {base : Heap}
theorem Fun.ok {x qual : Str} {st : Stmt} {f : Addr} {fd : FuncData} {N ps : List Str} {k : Nat} {sp : Sp} (F : Fun K x qual st f fd) (S : aC N ps (defScope st)) (len : ∀ vs H Q E, sp vs H Q E → vs.length = ps.length)
  (hbody : ∀ (cdv : Value) (A : Around) (outer : List Env) (s : Shared) (H : Hp) (vs : List V) (Q : VK) (E : XK), dF k (A.deeper (envOfC qual (defScope st) s.heap.objs.size f cdv)) → sp vs H Q E →
   ∃ t, PSs (fO CX0 P w K mg base N qual (defScope st) f cdv A outer s H E).nox (defBody st) t ∧ t { nx := fun _ H' => Q .non H', rt := Q } (start N vs) H) : bj P w K mg base CX0 (k + 1) f fd ps sp := by
 obtain ⟨oc, od, kV, doc, pm, an, cdv, ct, osl, rfl, lk, hcd⟩ := F.ex
 refine Ef lk hcd S len fun A outer s H vs Q E hr hsp => ?_
 obtain ⟨t, h, q⟩ := hbody cdv A outer s H vs Q E hr hsp
 exact ⟨t, h.nox, q⟩
theorem Fun.binds {x qual : Str} {st : Stmt} {f : Addr} {fd : FuncData} {ps : List Str} (F : Fun K x qual st f fd)
  (h : ∀ (kV doc pm : Value) (an : Option Addr) (cdv ct : Value) (us : List Value), us.length = ps.length → bindArgs (PySem.W.fnOf x qual (defArgs st) (defBody st) (defScope st) .none kV doc pm an cdv ct) ⟨us, []⟩ = pure (ps.zip us)) : Binds K fd ps [] := by
 obtain ⟨oc, od, kV, doc, pm, an, cdv, ct, osl, rfl, lk, hcd⟩ := F.ex
 exact .all (h kV doc pm an cdv ct)
theorem wZ {x qual : Str} {st : Stmt} {f : Addr} {oc : Value} {od an : Option Addr} {osl : Array (Option Value)} {kV doc pm cdv ct : Value} (l : K.lookup f = some ⟨oc, od, .func (PySem.W.fnOf x qual (defArgs st) (defBody st) (defScope st) .none kV doc pm an cdv ct), osl⟩)
  (c : PySem.W.codeIn K cdv qual = true) (k : PySem.W.keepIn K (.ref f) = true) : Fun K x qual st f (PySem.W.fnOf x qual (defArgs st) (defBody st) (defScope st) .none kV doc pm an cdv ct) := ⟨⟨oc, od, kV, doc, pm, an, cdv, ct, osl, rfl, l, c⟩, k⟩
end
section
variable {X : Cx}
theorem pv (i : Nat) {x : Str} {pos : Pos} (hN : X.N[i]? = some x := by rfl) (hv : Vis X.env.scope x := by first | exact Or.inl rfl | exact Or.inr (Or.inl rfl) | exact Or.inr (Or.inr rfl)) (hd : (x == ("__debug__" : Str)) = false := by decide)
  (hcd : (x == ("__classdict__" : Str)) = false := by decide) : PE X (.Name x pos) (FQ i) := w5 hN hv hd hcd
end
theorem cW {A B : Prop} (h : B) : if false = true then A else B := by
 rw [if_neg Bool.false_ne_true]
 exact h
theorem dN {A B : Prop} (h : A) : if true = true then A else B := by
 rw [if_pos rfl]
 exact h
theorem aP {c A B : Prop} [Decidable c] (h1 : c → A) (h2 : ¬ c → B) : if c then A else B := by
 by_cases h : c
 ·rw [if_pos h]
  exact h1 h
 ·rw [if_neg h]
  exact h2 h
theorem tH {c A B : Prop} [Decidable c] (hc : c) (h : B) : if (!decide c) = true then A else B := by
 rw [decide_eq_true hc]
 exact cW h
def aY (H H' : Hp) : Prop := ∀ b o, H b = some o → H' b = some o
theorem aY.refl (H : Hp) : aY H H := fun _ _ h => h
theorem aY.trans {H H1 H2 : Hp} (a : aY H H1) (b : aY H1 H2) : aY H H2 := fun c o h => b c o (a c o h)
theorem aY.free {H H' : Hp} (e : aY H H') {l : Addr} (h : H' l = Option.none) : H l = Option.none := by
 cases q : H l with
 | none => rfl
 | some o =>
  rw [e l o q] at h
  cases h
theorem aY.seq {K : PySem.W.Frag} {H H' : Hp} {a : Addr} {xs : List V} (e : aY H H') (h : SqL K H a xs) : SqL K H' a xs := by
 rcases h with (h | ⟨o, h⟩) | h
 ·exact .inl (.inl (e _ _ h))
 ·exact .inl (.inr ⟨o, e _ _ h⟩)
 ·exact .inr h
end L2
set_option maxHeartbeats 4000000
set_option Elab.async false
set_option linter.all false
set_option maxRecDepth 100000
set_option maxHeartbeats 4000000
namespace Tw
open PySem L2
theorem aA {H : Hp} {p : Addr} (h : H p = none) (o : HO) : aY H (upd H p o) := fun b u q => by rw [aH (aJ q h)]; exact q
theorem bL {H H' : Hp} {p : Addr} (s : aY H H') (h : H p = none) (o : HO) : aY H (upd H' p o) := fun b u q => by rw [aH (aJ q h)]; exact s b u q
theorem small {n : Nat} (h : n ≤ 4097) : n < sizeLine := Nat.lt_of_le_of_lt h (by decide)
theorem cG : bootBuiltins "len" = some (.builtin "len") := by decide +kernel
theorem Fg : bootBuiltins "sum" = some (.builtin "sum") := by decide +kernel
theorem dX : bootBuiltins "isinstance" = some (.builtin "isinstance") := by decide +kernel
theorem jE : bootBuiltins "min" = some (.builtin "min") := by decide +kernel
theorem Bx : bootBuiltins "max" = some (.builtin "max") := by decide +kernel
theorem Fv : bootBuiltins "int" = some (.type "int") := by decide +kernel
theorem uG : bootBuiltins "bool" = some (.type "bool") := by decide +kernel
theorem jO : bootBuiltins "list" = some (.type "list") := by decide +kernel
theorem vD : bootBuiltins "tuple" = some (.type "tuple") := by decide +kernel
theorem eF : bootBuiltins "reversed" = some (.type "reversed") := by decide +kernel
theorem Fi : bootBuiltins "set" = some (.type "set") := by decide +kernel
theorem Ex : bootBuiltins "zip" = some (.type "zip") := by decide +kernel
theorem DP (ns : List Int) (i j : Nat) : jo (ns.map V.int) (some (i : Int)) (some (j : Int)) = ((ns.drop i).take (j - i)).map V.int := by
 unfold jo
 rw [HT.pZ, HT.pZ, List.map_take, List.map_drop, List.length_map]
 rcases Nat.lt_or_ge ns.length i with h | h
 ·rw [Nat.min_eq_right (Nat.le_of_lt h), List.drop_of_length_le (by simp), List.drop_of_length_le (by simp; omega)]
  simp
 ·rw [Nat.min_eq_left h]
  rcases Nat.lt_or_ge ns.length j with q | q
  ·rw [Nat.min_eq_right (Nat.le_of_lt q), List.take_of_length_le (by simp), List.take_of_length_le (by simp; omega)]
  ·rw [Nat.min_eq_left q]
theorem Cw (ns : List Int) (j : Nat) : jo (ns.map V.int) none (some (j : Int)) = (ns.take j).map V.int := by
 unfold jo
 rw [HT.pZ, HT.vB, List.map_take, List.length_map, List.drop_zero, Nat.sub_zero]
 rcases Nat.lt_or_ge ns.length j with q | q
 ·rw [Nat.min_eq_right (Nat.le_of_lt q), List.take_of_length_le (by simp), List.take_of_length_le (by simp; omega)]
 ·rw [Nat.min_eq_left q]
theorem vz (ns : List Int) (i : Nat) : jo (ns.map V.int) (some (i : Int)) none = (ns.drop i).map V.int := by
 unfold jo
 rw [HT.pZ, HT.vB, List.map_drop, List.length_map]
 rcases Nat.lt_or_ge ns.length i with h | h
 ·rw [Nat.min_eq_right (Nat.le_of_lt h), List.drop_of_length_le (by simp), List.drop_of_length_le (by simp; omega)]
  simp
 ·rw [Nat.min_eq_left h, List.take_of_length_le (by simp)]
theorem int_at {ns : List Int} {i : Nat} {x : V} (h : (ns.map V.int)[i]? = some x) : ∃ c, ns[i]? = some c ∧ x = .int c := by
 rw [List.getElem?_map] at h
 cases e : ns[i]? with
 | none => rw [e] at h; cases h
 | some c => rw [e] at h; exact ⟨c, rfl, (Option.some.inj h).symm⟩
theorem jP {ns : List Int} {i : Nat} {c : Int} (h : ns[i]? = some c) : atI (ns.map V.int) (i : Int) = some (.int c) := zc (by rw [List.getElem?_map, h]; rfl)
structure Df (K : PySem.W.Frag) (mg : Str → Option Value) (x : Str) (st : Stmt) (ps : List Str) (f : Addr) (fd : FuncData) : Prop where
 F : Fun K x x st f fd
 b : Binds K fd ps []
 m : mg x = some (.ref f)
end Tw
set_option Elab.async false
set_option linter.all false
set_option maxRecDepth 100000
set_option maxHeartbeats 4000000
namespace Tw
def bit (b : Int) (k : Nat) : Int := b / 2 ^ k % 2
def bits (b : Int) (n : Nat) : List Int := (List.range n).map (bit b)
def ones (b : Int) (n : Nat) : Int := (bits b n).sum
theorem eE (b : Int) (n : Nat) : (bits b n).length = n := by simp [bits]
theorem An (b : Int) (n : Nat) : bits b (n + 1) = bits b n ++ [bit b n] := by simp [bits, List.range_succ]
theorem oh (b : Int) : ones b 0 = 0 := rfl
theorem jN (b : Int) (n : Nat) : ones b (n + 1) = ones b n + bit b n := by
 unfold ones; rw [An]; simp
theorem p6 {b : Int} {n k : Nat} (h : k < n) : (bits b n)[k]? = some (bit b k) := by simp [bits, h]
theorem zN (b : Int) (k : Nat) : bit b k = 0 ∨ bit b k = 1 := by
 unfold bit
 omega
end Tw
set_option Elab.async false
set_option linter.all false
set_option maxRecDepth 100000
set_option maxHeartbeats 4000000
namespace Tw
def bu (ns : List Int) : Prop := ∀ b ∈ ns, b = 0 ∨ b = 1
theorem bu.tail {b : Int} {ns : List Int} (h : bu (b :: ns)) : bu ns := fun x hx => h x (.tail _ hx)
theorem bu.head {b : Int} {ns : List Int} (h : bu (b :: ns)) : b = 0 ∨ b = 1 := h b (.head _)
theorem bu.take {ns : List Int} (h : bu ns) (k : Nat) : bu (ns.take k) := fun x hx => h x (List.mem_of_mem_take hx)
theorem bu.drop {ns : List Int} (h : bu ns) (k : Nat) : bu (ns.drop k) := fun x hx => h x (List.mem_of_mem_drop hx)
def blk : List Int → Int
 | [] => 0
 | b :: r => 2 * blk r + b
theorem vp (b : Int) : bit b 0 = b % 2 := by simp [bit]
theorem ue (b : Int) (k : Nat) : bit b (k + 1) = bit (b / 2) k := by
 unfold bit
 rw [Int.ediv_ediv_of_nonneg (by decide), ← Int.pow_succ']
theorem pW : ∀ {ns : List Int}, bu ns → ∀ k : Nat, bit (blk ns) k = (ns[k]?).getD 0
 | [], _, k => by simp [blk, bit]
 | b :: r, h, 0 => by
  have := h.head
  rw [vp]
  simp only [blk, List.getElem?_cons_zero, Option.getD_some]
  omega
 | b :: r, h, k + 1 => by
  have hb := h.head
  rw [ue, List.getElem?_cons_succ]
  have e : blk (b :: r) / 2 = blk r := by simp only [blk]; omega
  rw [e]
  exact pW h.tail k
theorem jB {ns : List Int} (h : bu ns) : ∀ k : Nat, ones (blk ns) k = (ns.take k).sum
 | 0 => by simp [oh]
 | k + 1 => by
  rw [jN, jB h k, pW h]
  by_cases hk : k < ns.length
  ·rw [List.take_add_one, List.getElem?_eq_getElem hk]
   simp only [Option.toList_some, List.sum_append, List.sum_cons, List.sum_nil, Option.getD_some]
   omega
  ·rw [List.take_of_length_le (by omega), List.take_of_length_le (by omega), List.getElem?_eq_none (by omega)]
   simp
def many (n : Nat) : Nat := (n + 31) / 32
def bK (ns : List Int) (j : Nat) : Int := blk ((ns.drop (32 * j)).take 32)
def cV (ns : List Int) : List Int := (List.range (many ns.length)).map (bK ns)
theorem fJ (ns : List Int) : (cV ns).length = many ns.length := by simp [cV]
theorem dD {ns : List Int} {j : Nat} (h : j < many ns.length) : (cV ns)[j]? = some (bK ns j) := by simp [cV, h]
theorem qH {ns : List Int} (h : bu ns) (j : Nat) : bu ((ns.drop (32 * j)).take 32) := (h.drop _).take _
theorem bit_at {ns : List Int} (h : bu ns) (j k : Nat) (hk : k < 32) : bit (bK ns j) k = (ns[32 * j + k]?).getD 0 := by
 unfold bK
 rw [pW (qH h j), List.getElem?_take_of_lt hk, List.getElem?_drop]
def net (b : Int) (k : Nat) : Int := 2 * ones b k - k
theorem Ck (b : Int) : net b 0 = 0 := by simp [net, oh]
theorem wC (b : Int) (k : Nat) : net b (k + 1) = net b k + 2 * bit b k - 1 := by
 unfold net
 rw [jN]
 omega
def nets (b : Int) (n : Nat) : List Int := (List.range n).map fun k => net b (k + 1)
theorem cI (b : Int) (n : Nat) : (nets b n).length = n := by simp [nets]
theorem zO (b : Int) (n : Nat) : nets b (n + 1) = nets b n ++ [net b (n + 1)] := by simp [nets, List.range_succ]
theorem lX {b : Int} {n k : Nat} (h : k < n) : (nets b n)[k]? = some (net b (k + 1)) := by simp [nets, h]
theorem wj {b : Int} {n : Nat} {x : Int} : x ∈ nets b n ↔ ∃ k, 1 ≤ k ∧ k ≤ n ∧ x = net b k := by
 unfold nets
 rw [List.mem_map]
 constructor
 ·rintro ⟨k, hk, rfl⟩
  exact ⟨k + 1, by omega, by have := List.mem_range.mp hk; omega, rfl⟩
 ·rintro ⟨k, h1, h2, rfl⟩
  refine ⟨k - 1, List.mem_range.mpr (by omega), ?_⟩
  have e : k - 1 + 1 = k := by omega
  rw [e]
def ht (ns : List Int) (k : Nat) : Int := 2 * (ns.take k).sum - k
theorem dY (ns : List Int) : ht ns 0 = 0 := by simp [ht]
theorem dB {ns : List Int} {k : Nat} {b : Int} (h : ns[k]? = some b) : ht ns (k + 1) = ht ns k + 2 * b - 1 := by
 unfold ht
 rw [List.take_add_one, h]
 simp only [Option.toList_some, List.sum_append, List.sum_cons, List.sum_nil]
 omega
theorem mL (ns : List Int) (a k : Nat) : (ns.take (a + k)).sum = (ns.take a).sum + ((ns.drop a).take k).sum := by
 rw [List.take_add, List.sum_append]
theorem gW {ns : List Int} (h : bu ns) (j k : Nat) (hk : k ≤ 32) : ht ns (32 * j + k) = ht ns (32 * j) + net (bK ns j) k := by
 unfold ht net bK
 rw [jB (qH h j), mL, List.take_take, Nat.min_eq_left hk]
 omega
theorem xK {ns : List Int} (h : bu ns) (j k : Nat) (hk : k ≤ 32) : ones (bK ns j) k = ((ns.drop (32 * j)).take k).sum := by
 unfold bK
 rw [jB (qH h j), List.take_take, Nat.min_eq_left hk]
theorem jY {ns : List Int} (h : bu ns) (j k : Nat) (hk : k ≤ 32) : (ns.take (32 * j)).sum + ones (bK ns j) k = (ns.take (32 * j + k)).sum := by
 rw [xK h j k hk, mL]
def Due (b : Int) (st sp : Nat) (g : Int) (k : Nat) : Prop := st < k ∧ k ≤ sp ∧ net b k ≤ g
theorem Ak (b : Int) (n : Nat) : bits b (n + 1) = b % 2 :: bits (b / 2) n := by
 unfold bits
 rw [List.range_succ_eq_map, List.map_cons, vp, List.map_map]
 congr 1
 refine List.map_congr_left fun k _ => ?_
 exact ue b k
theorem wX : ∀ (n : Nat) (b : Int), 0 ≤ b → b < 2 ^ n → blk (bits b n) = b
 | 0, b, h0, h1 => by
  have : b = 0 := by simp at h1; omega
  subst this
  rfl
 | n + 1, b, h0, h1 => by
  rw [Int.pow_succ] at h1
  rw [Ak, blk, wX n (b / 2) (by omega) (by omega)]
  omega
theorem wW (b : Int) (n : Nat) : bu (bits b n) := fun x hx => by
 obtain ⟨k, _, rfl⟩ := List.mem_map.mp hx
 exact zN b k
end Tw
set_option Elab.async false
set_option linter.all false
set_option maxRecDepth 100000
set_option maxHeartbeats 4000000
namespace L2
open PySem PySem.Spec PyProof.Rows
section
variable {X : Cx} {pins : List (Addr × Obj)} {σ : St} {H : Hp} {s : Shared} {h' : Heap}
theorem Inv.turn2 {e it p : Addr} {o : HO} {t' : Nat} (I : Inv X pins σ H s) (fe : iB X pins H e) (fi : iB X pins H it)
  (k : ∀ b u, b ≠ e → b ≠ it → s.heap.get? b = some u → h'.get? b = some u) (hp : s.heap.objs.size ≤ p)
  (new : bN X.prog X.w (upd H p o) h' p o) : Inv X pins σ (upd H p o) { s with heap := h', toks := t' } := by
 have hn := I.hok.fresh hp
 have ne : ∀ b u, H b = some u → b ≠ e := fun b u q z => by rw [z, fe.1] at q; cases q
 have ni : ∀ b u, H b = some u → b ≠ it := fun b u q z => by rw [z, fi.1] at q; cases q
 have up : ∀ b u, H b = some u → upd H p o b = some u := fun b u q => by rw [aH (aJ q hn)]; exact q
 have k' : ∀ b u, b ∉ [e, it] → s.heap.get? b = some u → h'.get? b = some u := fun b u hb q => k b u (fun z => hb (by simp [z])) (fun z => hb (by simp [z])) q
 refine I.step (g' := s.gens) (d' := s.drawn) (ch := [e, it]) (fun b hb => ?_) (fun b u _ _ hx q _ => k' b u hx q) (fun b u _ _ hx q _ => ⟨u.slots, k' b u hx q⟩)
  (fun b u _ q n => by rw [aH (Nat.ne_of_lt (Nat.lt_of_lt_of_le (Heap.lt_size q) hp))]; exact n) (fun b u hx q => ⟨u, k' b u hx q⟩)
  (fun b xs q => up _ _ q) (fun b ob u q => up _ _ q) (fun b ps q => ⟨#[], by rw [up _ _ q]; simp⟩) (fun m hm => ?_) (fun b u q => ?_) I.bare
 ·rcases List.mem_cons.mp hb with rfl | hb
  ·exact ⟨fe.2.2.2.1, fe.2.1, fe.2.2.2.2.1, fe.2.2.2.2.2⟩
  ·rw [List.mem_singleton.mp hb]
   exact ⟨fi.2.2.2.1, fi.2.1, fi.2.2.2.2.1, fi.2.2.2.2.2⟩
 ·obtain ⟨ob, es, ep, ho, r⟩ := hm
  exact ⟨ob, es, ep, k _ ob (Ne.symm fe.2.1) (Ne.symm fi.2.1) ho, r⟩
 ·by_cases hb : b = p
  ·subst hb
   rw [au] at q
   cases q
   exact new
  ·rw [aH hb] at q
   refine (I.hok b u q).stay (fun c v hc r => k c v ?_ ?_ r) (fun c r => up _ _ r) fun c xs r => up _ _ r
   ·rcases hc with rfl | z
    ·exact ne _ _ q
    ·exact ne _ _ z
   ·rcases hc with rfl | z
    ·exact ni _ _ q
    ·exact ni _ _ z
end
def Ite (K : PySem.W.Frag) (a : Addr) : It :=
  ⟨fun i H => ∃ xs x, SqL K H a xs ∧ xs[i]? = some x, fun i H x H' => ∃ p y, H p = none ∧ x = .ref p ∧ H' = upd H p (.tup [.int (i : Int), y]) ∧ ∀ xs, SqL K H a xs → xs[i]? = some y,
   fun i H => ∃ xs, SqL K H a xs ∧ xs.length ≤ i⟩
theorem zW {P : Program} {w : World} {K : PySem.W.Frag} {elts : List Expr} {x1 : Nat} {tpos : Pos} (a e it : Addr) (hne : e ≠ it) :
  Turn P w K (.Tuple elts x1 tpos) (Ite K a) [e, it] e (fun i h => (∃ old, IsEnum h e it (i : Nat) old) ∧ h.IsListIter it a i) where
 mem := by simp
 obj := fun i h st b hb => by
  obtain ⟨⟨old, he⟩, o, ho, hc, hd⟩ := st
  rcases List.mem_cons.mp hb with rfl | hb
  ·exact ⟨_, he, fun v z => by cases z⟩
  ·rw [List.mem_singleton.mp hb]
   exact ⟨o, ho, fun v z => by rw [hd] at z; cases z⟩
 keep := fun i h h' st k => by
  obtain ⟨⟨old, he⟩, st⟩ := st
  exact ⟨⟨old, k e (by simp) _ he⟩, st.at fun o q => k it (by simp) o q⟩
 item := by
  intro X hP hw hK hc i pins s σ H E I hf st hg
  subst hP hw hK
  obtain ⟨xs, x, hq, hx⟩ := hg
  obtain ⟨its, rv, p, hz⟩ := I.list hq
  obtain ⟨u, hu, ru⟩ := rv.get hx
  obtain ⟨⟨old, he⟩, st⟩ := st
  refine wpAny_pyNext_enum_item he st p.isList (x := u) (by simpa using hu) hne fun h1 heo hit1 ht1 hz1 hk1 => ?_
  refine ⟨_, rfl, wpAny_letOwnedTupleGo_enum heo fun h2 he2 hs2 => ?_⟩
  have ee : e < s.heap.objs.size := Heap.lt_size he
  have g2 : h2.get? s.heap.objs.size = some { cls := .type "tuple", data := .seq #[.int (i : Int) s.toks, u] } := (hs2.2 _ (Nat.ne_of_gt ee)).trans ht1
  have kk : ∀ b o, b ≠ e → b ≠ it → s.heap.get? b = some o → h2.get? b = some o := fun b o h3 h4 q => (hs2.2 b h3).trans (hk1 b o h3 h4 q)
  have new : bN X.prog X.w (upd H s.heap.objs.size (.tup [.int (i : Int), x])) h2 s.heap.objs.size (.tup [.int (i : Int), x]) :=
   ⟨(by show 2 ≤ sizeLine; decide), [.int (i : Int) s.toks, u], .cons ⟨_, rfl⟩ (.cons ru .nil), _, g2, rfl, _, rfl⟩
  have I2 := I.turn2 (h' := h2) (t' := s.toks + 1) (hf e (by simp)) (hf it (by simp)) kk (Nat.le_refl _) new
  have hn : H s.heap.objs.size = none := I.hok.fresh (Nat.le_refl _)
  refine ⟨.ref s.heap.objs.size, _, I2, rfl, ⟨_, x, hn, rfl, rfl, fun ys hy => by rw [I.list_inj hy hq]; exact hx⟩, ⟨⟨u, by simpa using he2⟩, hit1.extBut hs2.extBut (Ne.symm hne)⟩, fun b hb => ?_⟩
  have hbn := (hf b hb).1
  have hbs : b ≠ s.heap.objs.size := by
   obtain ⟨o, hio, _⟩ := st
   rcases List.mem_cons.mp hb with rfl | hb
   ·exact Nat.ne_of_lt ee
   ·rw [List.mem_singleton.mp hb]
    exact Nat.ne_of_lt (Heap.lt_size hio)
  rw [aH hbs]
  exact hbn
 done := by
  intro X hP hw hK hc i pins s σ H E I hf st hg
  subst hP hw hK
  obtain ⟨xs, hq, hx⟩ := hg
  obtain ⟨its, rv, p, hz⟩ := I.list hq
  obtain ⟨f0, f1, f2, f3, f4, f5⟩ := hf it (by simp)
  obtain ⟨⟨old, he⟩, st⟩ := st
  have hl := rv.length
  exact wpAny_pyNext_enum_end (I.ok.hd hc) he st p.isList (by simp; omega) fun h' eb => ⟨rfl, I.turned (t' := s.toks) (fun b o hb q => eb b o hb q) f0 f1 f3 f4 f5⟩
 self := fun _ _ _ _ _ st h => by
  obtain ⟨⟨old, he⟩, _⟩ := st
  exact wpAny_pyIter_enum he h
section
variable {X : Cx}
def G7 (K : PySem.W.Frag) (ta : TA) : TI := fun σ H R => ta σ H fun vs H1 => ∃ a xs, vs = [.ref a] ∧ SqL K H1 a xs ∧ R (Ite K a) H1
theorem uH {a : Expr} {ta : TA} {p pos : Pos} {elts : List Expr} {x1 : Nat} {tpos : Pos} (hg : Gl X "enumerate") (hm : X.mg "enumerate" = none) (ha : PA X [a] ta) (hs : starEach [a] X.env = [(false, eval a X.env)] := by rfl) :
  PI X (.Tuple elts x1 tpos) (.Call (.Name "enumerate" p) [a] [] pos) (G7 X.K ta) := by
 intro pins s σ H R I h
 refine Call_ (dC I hg hm boot_enumerate (PyProof.Rows.callWith_type1 (thn (ha pos pins s σ H _ I h) fun us s1 ⟨vs, H1, I1, r1, q1⟩ => ?_) hs rfl))
 obtain ⟨b, xs, e, hq, q⟩ := q1
 subst e
 obtain ⟨u, rfl, rx⟩ := vals1 r1
 cases rx
 obtain ⟨its, rv, pl, hz⟩ := I1.list hq
 refine call_enumerate_list pl.isList fun h' he hit hsz hk => ?_
 refine wpAny_pyIter_enum he ?_
 have I2 : Inv X pins σ H1 { s1 with heap := h' } := I1.kept (t' := s1.toks) hk
 have ne : s1.heap.objs.size + 1 ≠ s1.heap.objs.size := by omega
 refine ⟨s1.heap.objs.size + 1, [s1.heap.objs.size + 1, s1.heap.objs.size], _, Ite X.K b, H1, rfl, I2, zW b _ _ ne, ⟨⟨_, he⟩, hit⟩, fun c hc => ?_, q⟩
 have hle : s1.heap.objs.size ≤ c := by
  rcases List.mem_cons.mp hc with rfl | hc
  ·omega
  ·rw [List.mem_singleton.mp hc]
   omega
 exact I1.fpOk hle (I1.hok.fresh hle)
end
theorem vY {K : PySem.W.Frag} {a : Addr} {xs : List V} {g : TG} {tb : TS} {D : Ends} {σ : St} {H : Hp} (Pv : Nat → St → Hp → Prop) (h0 : Pv 0 σ H) (hl : ∀ i σ H, i ≤ xs.length → Pv i σ H → SqL K H a xs)
  (hs : ∀ i x σ H p, xs[i]? = some x → Pv i σ H → H p = none → g (.ref p) σ (upd H p (.tup [.int (i : Int), x])) fun σ2 H2 => tb { D with nx := Pv (i + 1), ct := Pv (i + 1), bk := D.nx } σ2 H2) (hd : ∀ σ H, Pv xs.length σ H → D.nx σ H) :
  ∃ W : Nat → Nat → St → Hp → Prop, (∃ m, W 0 m σ H) ∧ ∀ i m σ H, W i m σ H →
   ((Ite K a).stop i H ∧ D.nx σ H) ∨ ((Ite K a).go i H ∧ ∃ N : St → Hp → Prop, (∀ σ' H', N σ' H' → ∃ m', m' < m ∧ W (i + 1) m' σ' H') ∧ ∀ x H', (Ite K a).yld i H x H' → g x σ H' fun σ2 H2 => tb { D with nx := N, ct := N, bk := D.nx } σ2 H2) := by
 refine ⟨fun i m σ H => m = xs.length - i ∧ i ≤ xs.length ∧ Pv i σ H, ⟨xs.length, by simp, Nat.zero_le _, h0⟩, ?_⟩
 rintro i m σ H ⟨rfl, hi, p⟩
 have q := hl i σ H hi p
 by_cases hlt : i < xs.length
 ·refine .inr ⟨⟨xs, xs[i], q, by simp [hlt]⟩, Pv (i + 1), fun σ' H' p' => ⟨xs.length - (i + 1), by omega, rfl, hlt, p'⟩, fun x H' y => ?_⟩
  obtain ⟨c, y, hn, e1, e2, hy⟩ := y
  subst e1 e2
  exact hs i y σ H c (hy xs q) p hn
 ·have e : i = xs.length := by omega
  subst e
  exact .inl ⟨⟨xs, q, Nat.le_refl _⟩, hd σ H p⟩
section
variable {X : Cx}
theorem BR (hc : X.calm = true) : gP X (.builtin "sum") (fun xs H Q => ∃ (p : Addr) (ns : List Int), xs = [.ref p] ∧ SqL X.K H p (ns.map V.int) ∧ Q (.int ns.sum) H) := by
 intro pins s σ H xs us Q I r h
 obtain ⟨p, ns, rfl, hq, q⟩ := h
 obtain ⟨u, rfl, rx⟩ := vals1 r
 cases rx
 obtain ⟨its, r', pl, hz⟩ := I.list hq
 have hi := intsAre_of r'
 obtain ⟨zs, e⟩ := hi.allInts.items
 refine sum_intListG (xs := zs) (I.ok.hd hc) (by rw [← e]; exact pl.isList) fun h' tk t' hk => ⟨.int ns.sum, H, I.kept (t' := tk) hk, ⟨t', ?_⟩, q⟩
 have e2 : numsOf (intItems zs).toList = ns := by rw [← e]; exact hi.numsOf
 rw [nums_intItems] at e2
 rw [← e2, preSum_eq, List.take_of_length_le (by simp)]
theorem mG : gP X (.builtin "isinstance") (fun xs H Q => ∃ x T t b, xs = [x, .ty T] ∧ nT X.K H x t ∧ PySem.W.kitOne X.K t (.type T) = some b ∧ Q (.bl b) H) := by
 intro pins s σ H xs us Q I r h
 obtain ⟨x, T, t, b, rfl, ty, e, q⟩ := h
 obtain ⟨u, v, rfl, rx, rv⟩ := vals2 r
 obtain rfl : v = Value.type T := rv
 exact z8 I rx ty e fun tk => ⟨.bl b, H, I.tok tk, rfl, q⟩
end
end L2
set_option Elab.async false
set_option linter.all false
set_option maxRecDepth 100000
set_option maxHeartbeats 4000000
namespace L2
open PySem PySem.Spec PyProof.Rows
def bF (X : Cx) (N : List Str) (scope : Scope) (cl : List (Str × Addr)) (C : Addr) (s : Shared) (H : Hp) (fp : List Addr) : Cx :=
 { X with N := N, s₀ := s, H₀ := H, env := compEnvC scope cl C X.env, outer := X.stack, ex := fp, fn := fun _ => false, pn := [], xe := fun _ _ => False }
structure dg (X : Cx) (x : Str) (caps : List (Str × Nat)) (scope : Scope) (cl : List (Str × Addr)) : Prop where
 kind : scope.kind = .function
 nocell : ∀ y ∈ scope.names, y.2 ≠ .cell
 names : ∀ y ∈ scope.names, y.2 = .local → scope.names.lookup y.1 = some .local
 hx : scope.names.lookup x = some .local
 clos : closureFor scope X.env = pure cl
 cls : ∀ y c, cl.lookup y = some c → X.env.cells.lookup y = some c
 has : ∀ y, ((relabel scope X.env).names.lookup y = some .cell ∨ (relabel scope X.env).names.lookup y = some .free) → ∃ c, cl.lookup y = some c
 nd : (x :: caps.map (·.1)).Nodup
 cap : ∀ y j, (y, j) ∈ caps → X.N[j]? = some y ∧ (X.env.scope.names.lookup y = some .cell ∨ X.env.scope.names.lookup y = some .free) ∧
  ((relabel scope X.env).names.lookup y = some .cell ∨ (relabel scope X.env).names.lookup y = some .free)
def fK (caps : List (Str × Nat)) (σ : St) : St := caps.map fun p => (σ[p.2]?).getD none
section
variable {X : Cx} {pins : List (Addr × Obj)} {σ : St} {H : Hp} {s : Shared}
theorem pC (caps : List (Str × Nat)) (σ : St) : (fK caps σ).length = caps.length := by simp [fK]
theorem Inv.comp {x : Str} {caps : List (Str × Nat)} {scope : Scope} {cl : List (Str × Addr)} {fp : List Addr} {h' : Heap} {tk : Nat} {m : Str → Option Value} {D C : Addr} (I : Inv X pins σ H s) (K0 : dg X x caps scope cl) (hf : ∀ b ∈ fp, iB X pins H b)
  (hfs : ∀ b ∈ fp, b < s.heap.objs.size) (hD : s.heap.objs.size ≤ D) (hC : s.heap.objs.size ≤ C) (hDC : D ≠ C) (hk : ∀ b o, s.heap.get? b = some o → h'.get? b = some o) (hn : h'.Ns C m) (hL : h'.get? D = some { cls := .type "list", data := .seq #[] }) :
  Inv (bF X (x :: caps.map (·.1)) scope cl C s H fp) [] (none :: fK caps σ) (upd H D (.lst [])) { s with heap := h', toks := tk } := by
 have hnD := I.hok.fresh hD
 have hnC := I.hok.fresh hC
 have lkc : ∀ y c, (bF X (x :: caps.map (·.1)) scope cl C s H fp).env.cells.lookup y = some c → X.env.cells.lookup y = some c := fun y c e => K0.cls y c e
 have clt : ∀ y c, X.env.cells.lookup y = some c → c < s.heap.objs.size := fun y c e => by
  obtain ⟨v, q⟩ := I.cell y c e
  exact q.lt
 have up : ∀ b u, H b = some u → upd H D (.lst []) b = some u := fun b u q => by rw [aH (aJ q hnD)]; exact q
 have ok : (bF X (x :: caps.map (·.1)) scope cl C s H fp).Ok := by
  refine ⟨I.ok.mod, K0.kind, I.ok.glob, I.ok.blt, hC, fun y z c h1 h2 => I.ok.inj y z c (lkc y c h1) (lkc z c h2), fun y hy => K0.has y hy, fun y c h => absurd (show false = true from h) Bool.false_ne_true, I.ok.hd, I.ok.frames, .inl rfl, fun b hb => ?_, I.bs, Nat.le_trans I.ok.bsz I.sz, fun b o e hb => ?_, fun b hb hz => ?_, I.stack, I.stkFree⟩
  ·obtain ⟨f0, f1, f2, f3, f4, f5⟩ := hf b hb
   exact ⟨Nat.ne_of_lt (Nat.lt_of_lt_of_le (hfs b hb) hC), fun y c e => f4 y c (lkc y c e)⟩
  ·obtain ⟨f0, f1, f2, f3, f4, f5⟩ := hf b hb
   rcases f3 with z | z
   ·exact I.ok.noex b o e z
   ·exact absurd (Nat.lt_of_lt_of_le (Nat.lt_of_lt_of_le (Heap.lt_size e) I.ok.bsz) z) (Nat.lt_irrefl _)
  ·obtain ⟨f0, f1, f2, f3, f4, f5⟩ := hf b hb
   rcases List.mem_cons.mp (I.stkSub b hz) with z | z
   ·exact f1 z
   ·exact f2 z
 refine ⟨ok, rfl, I.bare, ?_, ⟨m, hn, fun i y v e1 e2 e3 => ?_⟩, fun y c e => ?_, ?_, fun y c e => ?_, fun p hp => absurd (show p ∈ ([] : List (Addr × Obj)) from hp) (by simp), ?_, ?_⟩
 ·exact Un.laid hk hD hnD
 ·cases i with
  | zero => cases e2
  | succ i =>
   have e1' : (caps.map (·.1))[i]? = some y := e1
   have e2' : (fK caps σ)[i]? = some (some v) := e2
   rw [List.getElem?_map] at e1'
   unfold fK at e2'
   rw [List.getElem?_map] at e2'
   cases ec : caps[i]? with
   | none => rw [ec] at e1'; cases e1'
   | some p =>
    rw [ec] at e1' e2'
    obtain ⟨y', j⟩ := p
    have ey : y' = y := Option.some.inj e1'
    subst ey
    have ev : (σ[j]?).getD none = some v := Option.some.inj e2'
    have ev' : σ[j]? = some (some v) := by
     cases q : σ[j]? with
     | none => rw [q] at ev; cases ev
     | some w => rw [q] at ev; exact congrArg some ev
    obtain ⟨c1, c2, c3⟩ := K0.cap y' j (List.mem_of_getElem? ec)
    obtain ⟨m0, hn0, hl⟩ := I.loc
    obtain ⟨u, r, l⟩ := hl j y' v c1 ev' (by rcases c2 with z | z; exact .inr (.inl z); exact .inr (.inr z))
    refine ⟨u, r, .inr ⟨c3, ?_⟩⟩
    rcases l with ⟨k, _⟩ | ⟨k, c, ec, z⟩
    ·have k' : X.env.scope.names.lookup y' = some .local := k
     rcases c2 with z | z
     ·rw [z] at k'; cases k'
     ·rw [z] at k'; cases k'
    ·obtain ⟨c', hc'⟩ := K0.has y' c3
     have e4 := K0.cls y' c' hc'
     rw [ec] at e4
     cases e4
     obtain ⟨o, ho, hd⟩ := z
     exact ⟨c, hc', o, hk _ _ ho, hd⟩
 ·obtain ⟨v, o, ho, hd⟩ := I.cell y c (lkc y c e)
  exact ⟨v, o, hk _ _ ho, hd⟩
 ·show upd H D (.lst []) C = none
  rw [aH (Ne.symm hDC)]
  exact hnC
 ·have hlt := clt y c (lkc y c e)
  rw [aH (Nat.ne_of_lt (Nat.lt_of_lt_of_le hlt hD))]
  exact I.freeC y c (lkc y c e)
 ·exact I.hok.laid hk hD ⟨Nat.zero_le _, [], _, .nil, hL⟩
 ·show (none :: fK caps σ).length = (x :: caps.map (·.1)).length
  simp [pC]
theorem Inv.comped {N : List Str} {scope : Scope} {cl : List (Str × Addr)} {fp : List Addr} {C : Addr} {s' : Shared} {σ' : St} {H' : Hp} (I : Inv X pins σ H s) (hf : ∀ b ∈ fp, iB X pins H b)
  (J : Inv (bF X N scope cl C s H fp) [] σ' H' s') : Inv X pins σ H' s' := by
 refine I.call' (ch := fp) (J.os.trans rfl) J.base J.hok J.bare fun b hb => ?_
 obtain ⟨f0, f1, f2, f3, f4, f5⟩ := hf b hb
 exact ⟨f3, f1, f4, f5⟩
def qR (J : It) (cap : St) (tt : TT) (te : TE) (Qf : Addr → Hp → Prop) (H : Hp) : Prop :=
 ∀ D, H D = none → ∃ W : Nat → Nat → List V → Hp → Prop, (∃ m, W 0 m [] (upd H D (.lst []))) ∧ ∀ i m ys H1, W i m ys H1 →
  (J.stop i H1 ∧ Qf D H1) ∨ (J.go i H1 ∧ ∀ v H2, J.yld i H1 v H2 → tt (some v :: cap) H2 fun b H3 => if b = true then
   te (some v :: cap) H3 fun y H4 => H4 D = some (.lst ys) ∧ ys.length < sizeLine ∧ ∃ m', m' < m ∧ W (i + 1) m' (ys ++ [y]) (upd H4 D (.lst (ys ++ [y]))) else ∃ m', m' < m ∧ W (i + 1) m' ys H3)
def PTs (X : Cx) (ifs : List Expr) (tt : TT) : Prop :=
 ∀ (pins : List (Addr × Obj)) (s : Shared) (σ : St) (H : Hp) (Q : Bool → Hp → Prop), Inv X pins σ H s → tt σ H Q →
  wpAny (model X.prog X.w) X.A (forIn ifs true fun c r => if r = true then do let ok ← isTrue c X.env (eval c X.env); pure (ForInStep.yield ok) else pure (ForInStep.yield r)) (TP X pins σ Q) X.xe s
def DW : TT := fun _ H Q => Q true H
theorem jR : PTs X [] DW := fun _ _ _ H _ I h => wpAny_tests_nil ⟨H, I, h⟩
theorem t7 {x : Str} {px pos : Pos} {caps : List (Str × Nat)} {scope : Scope} {cl : List (Str × Addr)} {elt iter : Expr} {ifs : List Expr} {J : It} {fp : List Addr} {it : Addr} {tn : Nat → Heap → Prop} {tt : TT} {te : TE} {Qf : Addr → Hp → Prop}
  {RR : Value → Addr → Result → Shared → Prop} {E : Value → Shared → Prop} (I : Inv X pins σ H s) (hc : X.calm = true) (K0 : dg X x caps scope cl) (T : Turn X.prog X.w X.K (.Name x px) J fp it tn) (st : tn 0 s.heap) (hf : ∀ b ∈ fp, iB X pins H b)
  (ht : ∀ C s1 H1 fp1, PTs (bF X (x :: caps.map (·.1)) scope cl C s1 H1 fp1) ifs tt) (he : ∀ C s1 H1 fp1, PE (bF X (x :: caps.map (·.1)) scope cl C s1 H1 fp1) elt te) (rd : qR J (fK caps σ) tt te Qf H)
  (hRR : ∀ D C s' H' m, Inv X pins σ H' s' → s'.heap.Ns C m → iB X pins H' C → Qf D H' → RR (.ref D) C (.ok .next) s') :
  wpAny (model X.prog X.w) X.A (newList []) (fun acc s3 => wpAny (model X.prog X.w) X.A (newFunctionEnv scope X.env.globals cl [] X.env.qual none .none (some X.env)) (fun cenv s4 =>
   codeAny (model X.prog X.w) X.A (.compStart (.ListComp elt [⟨.Name x px, iter, ifs, 0⟩] scope pos) 0 (.ref it) acc { cenv with scope := relabel scope X.env }) (RR acc cenv.locals) s4) E s3) E s := by
 have hfs : ∀ b ∈ fp, b < s.heap.objs.size := fun b hb => by
  obtain ⟨o, e, _⟩ := T.obj _ _ st b hb
  exact Heap.lt_size e
 refine wpAny_newObj_type (wpAny_newFunctionEnv K0.nocell (by intro y hy; simp at hy) (fun h1 hn1 hb1 => ?_) K0.kind)
 dsimp only at hn1 hb1 ⊢
 obtain ⟨D, eD⟩ : ∃ D : Nat, D = s.heap.objs.size := ⟨_, rfl⟩
 obtain ⟨H2, eH2⟩ : ∃ g, g = s.heap.push { cls := .type "list", dict := none, data := .seq ([] : List Value).toArray } := ⟨_, rfl⟩
 rw [← eH2] at hn1 hb1 ⊢
 rw [← eD]
 have hC : H2.objs.size = D + 1 := by rw [eH2, Heap.size_push, eD]
 have hle : s.heap.objs.size ≤ H2.objs.size := by rw [hC, eD]; exact Nat.le_succ _
 have hDC : D ≠ H2.objs.size := by rw [hC]; exact Nat.ne_of_lt (Nat.lt_succ_self _)
 have hk : ∀ b o, s.heap.get? b = some o → h1.get? b = some o := fun b o e => by
  refine hb1.extBut b o (Nat.ne_of_lt (Nat.lt_of_lt_of_le (Heap.lt_size e) hle)) (Heap.get?_push_of_some _ ?_)
  rw [eH2]
  exact Heap.get?_push_of_some _ e
 have hL : h1.get? D = some { cls := .type "list", data := .seq #[] } := by
  refine hb1.extBut D _ (by omega) (Heap.get?_push_of_some _ ?_)
  rw [eH2, eD]
  exact Heap.get?_push_size _ rfl
 have st1 : tn 0 h1 := T.keep _ _ _ st fun b _ o e => hk b o e
 obtain ⟨W, ⟨m0, w0⟩, turn⟩ := rd D (I.hok.fresh (by omega))
 have loop : codeAny (model X.prog X.w) X.A (.compLoop (.ListComp elt [⟨.Name x px, iter, ifs, 0⟩] scope pos) 0 (.ref it) (.ref D) (compEnvC scope cl H2.objs.size X.env)) (RR (.ref D) H2.objs.size) { s with heap := h1, toks := s.toks + ([] : List (Str × Value)).length } := by
  refine codeAny_compLoop_tests (fun n s' => ∃ i ys sl H', Inv (bF X (x :: caps.map (·.1)) scope cl H2.objs.size s H fp) [] (sl :: fK caps σ) H' s' ∧ tn i s'.heap ∧ (∀ b ∈ fp, H' b = none) ∧ W i n ys H') ?_ m0
   ⟨0, [], none, _, I.comp K0 hf hfs (by omega) (by omega) hDC hk hn1 hL, st1, fun b hb => ?_, w0⟩
  ·rintro n s3 ⟨i, ys, sl, H3, I3, st3, fr3, w3⟩
   have fpc : ∀ {H' : Hp} {pi : List (Addr × Obj)}, (∀ b ∈ fp, H' b = none) → (∀ p ∈ pi, p.1 ∉ fp) → ∀ b ∈ fp, iB (bF X (x :: caps.map (·.1)) scope cl H2.objs.size s H fp) pi H' b := fun {H' pi} hn hp b hb => by
    obtain ⟨f0, f1, f2, f3, f4, f5⟩ := hf b hb
    refine ⟨hn b hb, ?_, fun z => ?_, .inl hb, fun y c e => f4 y c (K0.cls y c e), fun p hpp z => ?_⟩
    ·exact Nat.ne_of_lt (Nat.lt_of_lt_of_le (hfs b hb) hle)
    ·rcases List.mem_cons.mp (I.stkSub b z) with q | q
     ·exact f1 q
     ·exact f2 q
    ·exact hp p (by simpa [bF] using hpp) (by rw [z]; exact hb)
   have clear : ∀ {α : Type} {t : Sem α} {Q : α → Shared → Prop} {E' : Value → Shared → Prop} {s : Shared}, wpAny (model X.prog X.w) X.A t Q (fun _ _ => False) s → wpAny (model X.prog X.w) X.A t Q E' s := fun h => wpAny_mono h (fun _ _ z => z) fun _ _ z => z.elim
   rcases turn i n ys H3 w3 with ⟨stop, qf⟩ | ⟨go, step⟩
   ·refine thn (T.done (bF X (x :: caps.map (·.1)) scope cl H2.objs.size s H fp) rfl rfl rfl hc i [] s3 _ H3 _ I3 (fpc fr3 (by simp)) st3 stop) fun r s4 ⟨hr, I4⟩ => ?_
    subst hr
    obtain ⟨m4, hn4, _⟩ := id I4.loc
    refine hRR D _ s4 H3 m4 (I.comped hf I4) hn4 ?_ qf
    have gC : s.heap.objs.size ≤ H2.objs.size := by omega
    exact I.fpOk gC I4.free
   ·refine clear (thn (T.item (bF X (x :: caps.map (·.1)) scope cl H2.objs.size s H fp) rfl rfl rfl hc i [] s3 _ H3 (fun _ _ => False) I3 (fpc fr3 (by simp)) st3 go) fun r s4 ⟨u, hr, h4⟩ => ?_)
    subst hr
    refine clear (show wpAny (model X.prog X.w) X.A (pure () >>= fun _ => assign (.Name x px) (compEnvC scope cl H2.objs.size X.env) u) _ _ s4 from wpAny_bind (thn (h4 : wpAny (model X.prog X.w) X.A (pure ()) _ _ s4) fun _ s5 ⟨v, H5, I5, r5, y5, st5, fr5⟩ => ?_))
    have I5' := I5.pinned (fpc fr5 (by simp)) (T.obj _ _ st5)
    have hg : PG (bF X (x :: caps.map (·.1)) scope cl H2.objs.size s H fp) (.Name x px) (qj 0) := bw (i := 0) K0.nd rfl (Or.inl (lookup_relabel_local K0.hx)) (Or.inr (lookup_relabel_local K0.hx))
    refine thn (hg _ s5 (sl :: fK caps σ) H5 v u (fun σ2 H2 => σ2 = some v :: fK caps σ ∧ H2 = H5) I5' r5 (show _ ∧ _ from ⟨rfl, rfl⟩)) fun _ s6 ⟨σ6, H6, I6, e6, e7⟩ => ?_
    subst e6 e7
    have q6 := step v _ y5
    have again : ∀ {H7 : Hp} {s7 : Shared} {sl : Option V} {zs : List V} {m' : Nat}, Inv (bF X (x :: caps.map (·.1)) scope cl H2.objs.size s H fp) ([] ++ oU fp s5.heap) (sl :: fK caps σ) H7 s7 → m' < n → W (i + 1) m' zs H7 →
      ∃ m, m < n ∧ ∃ i ys sl H', Inv (bF X (x :: caps.map (·.1)) scope cl H2.objs.size s H fp) [] (sl :: fK caps σ) H' s7 ∧ tn i s7.heap ∧ (∀ b ∈ fp, H' b = none) ∧ W i m ys H' := fun {H7 s7 sl zs m'} I7 hm w7 => by
     refine ⟨m', hm, i + 1, zs, sl, H7, I7.unpinned, T.keep _ _ _ st5 fun b hb o e => (I7.pin (b, o) (List.mem_append_right _ (List.mem_append_right _ (dU hb e)))).1, fun b hb => ?_, w7⟩
     obtain ⟨o, e, d⟩ := T.obj _ _ st5 b hb
     exact (I7.pin (b, o) (List.mem_append_right _ (List.mem_append_right _ (dU hb e)))).2.1
    refine clear (thn (ht H2.objs.size s H fp _ s6 _ H6 _ I6 q6) fun ok s7 ⟨H7, I7, q7⟩ => ?_)
    cases ok with
    | false =>
     obtain ⟨m', hm, w7⟩ := (show ∃ m', m' < n ∧ W (i + 1) m' ys H7 from q7)
     exact again I7 hm w7
    | true =>
     refine clear (thn (he H2.objs.size s H fp _ s7 _ H7 _ I7 q7) fun xv s8 ⟨y, H8, I8, r8, hD8, hz8, m', hm, w8⟩ => ?_)
     refine clear (thn (bT _ s8 _ H8 (.ref D) [y] (.ref D) [xv] (fun _ H9 => H9 = upd H8 D (.lst (ys ++ [y]))) I8 rfl (.cons r8 .nil) ⟨D, ys, y, rfl, rfl, hD8, hz8, rfl⟩) fun _ s9 ⟨_, H9, I9, _, e9⟩ => ?_)
     subst e9
     exact again I9 hm w8
  ·rw [aH (by rw [eD]; exact Nat.ne_of_lt (hfs b hb))]
   exact (hf b hb).1
 exact codeAny_compStart_list loop (T.self _ 0 _ _ _ st1 loop)
def Eg (wi : TI) (caps : List (Str × Nat)) (tt : TT) (te : TE) : TE := fun σ H Q => wi σ H fun J H1 => qR J (fK caps σ) tt te (fun D H' => Q (.ref D) H') H1
theorem mz {x : Str} {px pos : Pos} {caps : List (Str × Nat)} {scope : Scope} {cl : List (Str × Addr)} {elt iter : Expr} {ifs : List Expr} {wi : TI} {tt : TT} {te : TE} (hc : X.calm = true) (K0 : dg X x caps scope cl) (hi : PI X (.Name x px) iter wi)
  (ht : ∀ C s1 H1 fp1, PTs (bF X (x :: caps.map (·.1)) scope cl C s1 H1 fp1) ifs tt) (he : ∀ C s1 H1 fp1, PE (bF X (x :: caps.map (·.1)) scope cl C s1 H1 fp1) elt te) (hs : ∀ x, foldedSetIterable iter X.env x = pure x := by intro _; rfl) :
  PE X (.ListComp elt [⟨.Name x px, iter, ifs, 0⟩] scope pos) (Eg wi caps tt te) := by
 intro pins s σ H Q I h
 rw [eval_ListComp]
 refine wpAny_comprehension_free (use := none) rfl hs K0.clos K0.kind K0.names (thn (hi pins s σ H _ I h) fun v s1 h1 => thn h1 fun itv s2 h2 => ?_)
 obtain ⟨it, fp, tn, J, H2, e, I2, T, st2, f2, rd⟩ := h2
 subst e
 refine t7 (RR := fun acc C => compPost (model X.prog X.w) X.A X.xe none (EP X pins σ Q) acc C) I2 hc K0 T st2 f2 ht he rd ?_
 intro D C s' H' m I' hn fC q
 exact ⟨m, hn, fun h'' hs'' => ⟨.ref D, H', I'.turned (h' := h'') (t' := s'.toks) (fun b o hb e => hs''.extBut b o hb e) fC.1 fC.2.1 fC.2.2.2.1 fC.2.2.2.2.1 fC.2.2.2.2.2, rfl, q⟩⟩
theorem yr {i : Nat} {y x : Str} {px py pos spos : Pos} {caps : List (Str × Nat)} {scope : Scope} {cl : List (Str × Addr)} {elt iter : Expr} {ifs : List Expr} {wi : TI} {tt : TT} {te : TE} (hN : X.N.Nodup) (hiN : X.N[i]? = some y) (hy : X.env.scope.names.lookup y = some .local) (hc : X.calm = true)
  (K0 : dg X x caps scope cl) (hi : PI X (.Name x px) iter wi)
  (ht : ∀ C s1 H1 fp1, PTs (bF X (x :: caps.map (·.1)) scope cl C s1 H1 fp1) ifs tt) (he : ∀ C s1 H1 fp1, PE (bF X (x :: caps.map (·.1)) scope cl C s1 H1 fp1) elt te)
  (hsw : swapsWith (.ListComp elt [⟨.Name x px, iter, ifs, 0⟩] scope pos) (some (.Name y py)) spos.line X.env = pure true := by rfl) (hs : ∀ x, foldedSetIterable iter X.env x = pure x := by intro _; rfl) :
  PS X (.Assign [.Name y py] (.ListComp elt [⟨.Name x px, iter, ifs, 0⟩] scope pos) spos) (Dd (Eg wi caps tt te) (qj i)) := by
 intro pins s σ H D0 I h
 rw [exec_Assign_Name_used _ _ _ _ hsw]
 refine wpAny_bind (wpAny_standAt (wpAny_bind ?_))
 show wpAny _ X.A (do let _ ← comprehension (.ListComp elt [⟨.Name x px, iter, ifs, 0⟩] scope pos) scope X.env _ (newList []) false (eval iter X.env) (some (assign (.Name y py) X.env))) _ _ s
 refine wpAny_bind (wpAny_mono (wpAny_comprehension_free (use := some (assign (.Name y py) X.env)) (Q := fun _ s' => SP X pins D0 .next s') rfl hs K0.clos K0.kind K0.names
  (thn (hi pins s σ H _ I h) fun v s1 h1 => thn h1 fun itv s2 h2 => ?_)) (fun _ s' hq => wpAny_pure (wpAny_pure hq)) fun _ _ e => e)
 obtain ⟨it, fp, tn, J, H2, e, I2, T, st2, f2, rd⟩ := h2
 subst e
 refine t7 (RR := fun acc C => compPost (model X.prog X.w) X.A X.xe (some (assign (.Name y py) X.env)) (fun _ s' => SP X pins D0 .next s') acc C) I2 hc K0 T st2 f2 ht he rd ?_
 intro D C s' H' m I' hn fC q
 show wpAny _ X.A (assign (.Name y py) X.env (.ref D)) _ _ _
 refine wpAny_assign_Name (nM (v := .ref D) I' hN hiN (.inl hy) rfl (fun s'' I'' ch => ⟨m, ?_, fun h'' hs'' => ?_⟩) (.inr hy))
 ·obtain ⟨a, sb, ha⟩ := ch
  refine hn.sameBut sb fun z => ?_
  rcases ha with ha | ha
  ·exact fC.2.1 (z.trans ha)
  ·exact fC.2.2.2.2.1 _ a ha z.symm
 ·exact ⟨_, H', I''.turned (h' := h'') (t' := s''.toks) (fun b o hb e => hs''.extBut b o hb e) fC.1 fC.2.1 fC.2.2.2.1 fC.2.2.2.2.1 fC.2.2.2.2.2, q⟩
end
theorem mH {scope : Scope} {env : Env} {y : Str} {k : NameKind} (h : (relabel scope env).names.lookup y = some k) : ∃ k0, (y, k0) ∈ scope.names ∧ (k = k0 ∨ (k0 = .free ∧ k = .cell)) := by
 have h := PySem.mem_of_lookup h
 obtain ⟨⟨n, k0⟩, hm, e⟩ := List.mem_map.mp (show (y, k) ∈ scope.names.map _ from h)
 by_cases c : (k0 == NameKind.free && env.scope.kind == .function && env.kindOf n == some .cell) = true
 ·have e' : (n, NameKind.cell) = (y, k) := by rw [← e]; exact (if_pos c).symm
  have c1 : k0 = .free := by
   simp only [Bool.and_eq_true] at c
   exact eq_of_beq c.1.1
  cases e'
  exact ⟨_, hm, .inr ⟨c1, rfl⟩⟩
 ·have e' : (n, k0) = (y, k) := by rw [← e]; exact (if_neg c).symm
  cases e'
  exact ⟨_, hm, .inl rfl⟩
section
variable {X : Cx} {x : Str} {scope : Scope}
theorem dg.zero (hfree : ∀ y ∈ scope.names, y.2 ≠ .free := by decide) (nocell : ∀ y ∈ scope.names, y.2 ≠ .cell := by decide) (kind : scope.kind = .function := by rfl) (names : ∀ y ∈ scope.names, y.2 = .local → scope.names.lookup y.1 = some .local := by decide)
  (hx : scope.names.lookup x = some .local := by rfl) : dg X x [] scope [] := by
 refine ⟨kind, nocell, names, hx, closureFor_none hfree, fun y c e => (by cases e), fun y hy => ?_, by simp, fun y j h => nomatch h⟩
 rcases hy with hy | hy
 all_goals
  obtain ⟨k0, hm, e⟩ := mH hy
  rcases e with e | ⟨e, _⟩
  ·subst e
   first | exact absurd rfl (nocell _ hm) | exact absurd rfl (hfree _ hm)
  ·subst e
   exact absurd rfl (hfree _ hm)
theorem dg.one {y : Str} {j : Nat} {c : Addr} (hN : X.N[j]? = some y) (hX : X.env.scope.names.lookup y = some .cell ∨ X.env.scope.names.lookup y = some .free) (ec : X.env.cells.lookup y = some c) (clos : closureFor scope X.env = pure [(y, c)])
  (hr : (relabel scope X.env).names.lookup y = some .cell ∨ (relabel scope X.env).names.lookup y = some .free)
  (hfree : ∀ z ∈ scope.names, z.2 = .free → z.1 = y := by decide) (nocell : ∀ y ∈ scope.names, y.2 ≠ .cell := by decide) (kind : scope.kind = .function := by rfl) (names : ∀ y ∈ scope.names, y.2 = .local → scope.names.lookup y.1 = some .local := by decide)
  (hx : scope.names.lookup x = some .local := by rfl) (nd : [x, y].Nodup := by decide) : dg X x [(y, j)] scope [(y, c)] := by
 have look : ([(y, c)] : List (Str × Addr)).lookup y = some c := by simp
 refine ⟨kind, nocell, names, hx, clos, fun z d e => ?_, fun z hz => ?_, nd, fun z i h => ?_⟩
 ·have := PySem.mem_of_lookup e
  cases List.mem_singleton.mp this
  exact ec
 ·have hz' : z = y := by
   rcases hz with hz | hz
   all_goals
    obtain ⟨k0, hm, e⟩ := mH hz
    rcases e with e | ⟨e, _⟩
    ·subst e
     first | exact absurd rfl (nocell _ hm) | exact hfree _ hm rfl
    ·subst e
     exact hfree _ hm rfl
  subst hz'
  exact ⟨c, look⟩
 ·cases List.mem_singleton.mp h
  exact ⟨hN, hX, hr⟩
end
end L2
set_option Elab.async false
set_option linter.all false
set_option maxRecDepth 100000
set_option maxHeartbeats 4000000
namespace L2
open PySem PySem.Spec PyProof.Rows
section
variable {prog : Program} {w : World} {A : Around} {R : Result → Shared → Prop} {I S : Addr} {fp wr : List Addr} {n : Nat} {P : Nat → Value → Prop} {St : Nat → Heap → Prop} {kw : List (Str × Value)}
theorem zz (W : Walks prog w A.in1 I fp wr n P St) (bt : Nat → Nat → Bool) (cmp : CmpOf prog w A.in1 .Lt P bt) (hSf : S ∉ fp) :
  ∀ (k j : Nat) (s : Shared) (x : Value) (c : Nat), j + 1 + k = n → St (j + 1) s.heap → P (argBest bt j) x → s.heap.get? S = some { cls := .type "list", data := .seq #[x, x] c } →
   (∀ v g t, P (argBest bt (n - 1)) v → (∀ b o, b ∉ wr → b ≠ S → s.heap.get? b = some o → g.get? b = some o) → R (.ok (.ret v)) { s with heap := g, toks := t }) →
   codeAny (model prog w) A (.builtin "min.loop" ⟨[.ref I, .none, .ref S], kw⟩) R s := by
 have hSw : S ∉ wr := fun z => hSf (W.sub _ z)
 have nm : (toString "min" ++ toString ".loop" : String) = "min.loop" := by decide
 intro k
 induction k with
 | zero =>
  intro j s x c hj st px hS fin
  have hn : j + 1 = n := hj
  refine codeAny_builtin PySem.F.entry_min_loop ?_
  rw [Around.under_plainId PySem.F.plain_min_loop _]
  show wpAny _ A.in1 (seqItems? (.ref S) >>= _) _ _ s
  refine wpAny_bind (wpAny_seqItems hS rfl ?_)
  show wpAny _ A.in1 (tryCatch (pyNext (.ref I)) _ >>= _) _ _ s
  refine wpAny_bind (wpAny_tryCatch (W.done s _ _ (hn ▸ st) fun g t kk => ?_))
  have hS1 := kk S _ hSw hS
  show wpAny _ A.in1 (updateSeq S (fun _ => #[]) >>= _) _ _ _
  refine wpAny_bind (wpAny_updateSeq hS1 rfl (wpAny_bind (wpAny_letGo (wpAny_pure ?_))))
  exact fin x _ t (by rw [← hn]; exact px) fun b o b1 b2 q => (Heap.get?_update_other _ _ (Ne.symm b2)).trans (kk b o b1 q)
 | succ k ih =>
  intro j s x c hj st px hS fin
  have lt : j + 1 < n := by omega
  refine codeAny_builtin PySem.F.entry_min_loop ?_
  rw [Around.under_plainId PySem.F.plain_min_loop _]
  show wpAny _ A.in1 (seqItems? (.ref S) >>= _) _ _ s
  refine wpAny_bind (wpAny_seqItems hS rfl ?_)
  show wpAny _ A.in1 (tryCatch (pyNext (.ref I)) _ >>= _) _ _ s
  refine wpAny_bind (wpAny_tryCatch (W.item (j + 1) s _ _ lt st fun v g t pv st1 kk => ?_))
  have hS1 := kk S _ hSw hS
  show wpAny _ A.in1 (tryCatch (holding [v, v] (richCompare .Lt v x >>= _)) _ >>= _) _ _ _
  refine wpAny_bind (wpAny_tryCatch (wpAny_holding (wpAny_bind (cmp (j + 1) (argBest bt j) v x _ _ _ pv px ?_))))
  refine wpAny_bind (wpAny_holding (wpAny_truthy_bool (wpAny_bind (wpAny_letGo (wpAny_pure ?_)))))
  cases hb : bt (j + 1) (argBest bt j) with
  | true =>
   simp only [if_true]
   refine wpAny_bind (wpAny_updateSeq hS1 rfl (wpAny_bind (wpAny_letGo ?_)))
   rw [nm]
   refine wpAny_pure ⟨plainId_quiet PySem.F.plain_min_loop _, ih (j + 1) _ v _ (by omega) (W.frame _ _ _ st1 fun b bf o q => ?_) (by simp only [argBest, hb, if_true]; exact pv) (Heap.get?_update_self _ hS1 rfl) fun y g2 t2 py k2 => ?_⟩
   ·exact (Heap.get?_update_other _ _ (fun z : S = b => hSf (by rw [z]; exact bf))).trans q
   ·exact fin y g2 t2 py fun b o b1 b2 q => k2 b o b1 b2 ((Heap.get?_update_other _ _ (Ne.symm b2)).trans (kk b o b1 q))
  | false =>
   simp only [Bool.false_eq_true, if_false]
   refine wpAny_bind (wpAny_letGo ?_)
   rw [nm]
   refine wpAny_pure ⟨plainId_quiet PySem.F.plain_min_loop _, ih (j + 1) _ x c (by omega) st1 (by simp only [argBest, hb, Bool.false_eq_true, if_false]; exact px) hS1 fun y g2 t2 py k2 => ?_⟩
   exact fin y g2 t2 py fun b o b1 b2 q => k2 b o b1 b2 (kk b o b1 q)
theorem yD (W : Walks prog w A.in1 I fp wr n P St) (bt : Nat → Nat → Bool) (cmp : CmpOf prog w A.in1 .Lt P bt) (hSf : S ∉ fp) (hn : 0 < n) {s : Shared} {c : Nat} (st : St 0 s.heap)
  (hS : s.heap.get? S = some { cls := .type "list", data := .seq #[] c })
  (fin : ∀ v g t, P (argBest bt (n - 1)) v → (∀ b o, b ∉ wr → b ≠ S → s.heap.get? b = some o → g.get? b = some o) → R (.ok (.ret v)) { s with heap := g, toks := t }) :
  codeAny (model prog w) A (.builtin "min.loop" ⟨[.ref I, .none, .ref S], kw⟩) R s := by
 have hSw : S ∉ wr := fun z => hSf (W.sub _ z)
 have nm : (toString "min" ++ toString ".loop" : String) = "min.loop" := by decide
 refine codeAny_builtin PySem.F.entry_min_loop ?_
 rw [Around.under_plainId PySem.F.plain_min_loop _]
 show wpAny _ A.in1 (seqItems? (.ref S) >>= _) _ _ s
 refine wpAny_bind (wpAny_seqItems hS rfl ?_)
 show wpAny _ A.in1 (tryCatch (pyNext (.ref I)) _ >>= _) _ _ s
 refine wpAny_bind (wpAny_tryCatch (W.item 0 s _ _ hn st fun v g t pv st1 kk => ?_))
 have hS1 := kk S _ hSw hS
 show wpAny _ A.in1 (updateSeq S (fun _ => #[v, v]) >>= _) _ _ _
 refine wpAny_bind (wpAny_updateSeq hS1 rfl ?_)
 rw [nm]
 refine wpAny_pure ⟨plainId_quiet PySem.F.plain_min_loop _, zz W bt cmp hSf (n - 1) 0 _ v _ (by omega) (W.frame _ _ _ st1 fun b bf o q => ?_) pv (Heap.get?_update_self _ hS1 rfl) fun y g2 t2 py k2 => ?_⟩
 ·exact (Heap.get?_update_other _ _ (fun z : S = b => hSf (by rw [z]; exact bf))).trans q
 ·exact fin y g2 t2 py fun b o b1 b2 q => k2 b o b1 b2 ((Heap.get?_update_other _ _ (Ne.symm b2)).trans (kk b o b1 q))
end
theorem sZ (a v : Value) : argsOk "min" ⟨[a], [(Str.ofString "default", v)]⟩ := by unfold argsOk; kernel_rfl
section
variable {prog : Program} {w : World} {A : Around} {E : Value → Shared → Prop} {s : Shared} {l : Addr} {zs : Array (Int × Tok)}
theorem ie {d : Value} {Q : Value → Shared → Prop} (hh : A.handled = none) (hl : s.heap.IsList l (intItems zs)) (hne : 0 < zs.size)
  (h : ∀ v g t, (intItems zs)[argBest (fun i j => decide (numAt zs i < numAt zs j)) (zs.size - 1)]? = some v → (∀ b o, s.heap.get? b = some o → g.get? b = some o) → Q v { s with heap := g, toks := t }) :
  wpAny (model prog w) A (call (.builtin "min") [.ref l] [(Str.ofString "default", d)]) Q E s := by
 have nm : (toString "min" ++ toString ".loop" : String) = "min.loop" := by decide
 refine PyProof.Rows.kmk_tree PySem.F.kind_min PySem.F.plain_min PySem.F.entry_min (sZ _ _) ?_
 refine wpAny_bind (wpAny_of_eq (show Builtin.Builtins.bindParams "min" ["key", "default"] 0 ⟨[], [(Str.ofString "default", d)]⟩ = pure [none, some d] from rfl) ?_)
 refine wpAny_bind (wpAny_pure (wpAny_bind (iter_intList hl fun s2 e st hfp hlI => ?_)))
 subst e
 refine wpAny_bind (wpAny_newObj_type ?_)
 rw [nm]
 have hz : (intItems zs).size = zs.size := by simp [intItems]
 refine wpAny_pure ⟨plainId_quiet PySem.F.plain_min_loop _, yD (Walks.list (A := A.in1) hh _ l hlI (intItems zs)) _ (CmpOf.ints_lt (numAt zs) (fun _ _ => intItems_at)) (fun z => Nat.lt_irrefl _ (hfp _ z)) (by rw [hz]; exact hne)
  ⟨⟨_, Heap.get?_push_of_some _ (Heap.get?_push_size _ rfl), rfl, rfl⟩, (hl.push _).push _⟩ (Heap.get?_push_size _ rfl) fun v g t hv k => ?_⟩
 refine h v g t (by rw [hz] at hv; exact hv) fun b o q => k b o ?_ ?_ (Heap.get?_push_of_some _ (Heap.get?_push_of_some _ q))
 ·exact fun z => absurd (Heap.lt_size q) (by rw [List.mem_singleton.mp z]; exact Nat.lt_irrefl _)
 ·refine Nat.ne_of_lt (Nat.lt_of_lt_of_le (Heap.lt_size q) ?_)
  rw [Heap.size_push]
  exact Nat.le_succ _
end
def qN (M : Int) (ns : List Int) : Prop := M ∈ ns ∧ ∀ a ∈ ns, M ≤ a
theorem qX {ns : List Int} {its : List Value} {zs : Array (Int × Tok)} (hi : IntsAre its ns) (e : its.toArray = intItems zs) (hne : 0 < ns.length) : 0 < zs.size ∧ qN (numAt zs (argBest (fun i j => decide (numAt zs i < numAt zs j)) (zs.size - 1))) ns := by
 have hns : ns = zs.toList.map (·.1) := by rw [← hi.numsOf, ← nums_intItems, ← e]
 have hsz : 0 < zs.size := by
  have h3 := hne
  rw [hns, List.length_map, Array.length_toList] at h3
  exact h3
 obtain ⟨h1, h2⟩ := argBest_lt (numAt zs) (zs.size - 1)
 refine ⟨hsz, ?_, fun a ha => ?_⟩
 ·rw [hns, numAt_eq]
  exact getD_mem (by rw [List.length_map, Array.length_toList]; omega)
 ·rw [hns] at ha
  obtain ⟨j, hj, rfl⟩ := mem_getD ha
  rw [List.length_map, Array.length_toList] at hj
  rw [← numAt_eq]
  exact h2 j (by omega)
section
variable {X : Cx}
theorem sX (hc : X.calm = true) : gP X (.builtin "min") (fun xs H Q => ∃ (p : Addr) (ns : List Int), xs = [.ref p] ∧ SqL X.K H p (ns.map V.int) ∧ 0 < ns.length ∧ ∀ M, qN M ns → Q (.int M) H) := by
 intro pins s σ H xs us Q I r h
 obtain ⟨p, ns, rfl, hq, hne, q⟩ := h
 obtain ⟨u, rfl, rx⟩ := vals1 r
 cases rx
 obtain ⟨its, r', pl, hz⟩ := I.list hq
 have hi := intsAre_of r'
 obtain ⟨zs, e⟩ := hi.allInts.items
 obtain ⟨hsz, hm⟩ := qX hi e hne
 refine min_intList (xs := zs) (I.ok.hd hc) (by rw [← e]; exact pl.isList) hsz fun v g t hv k => ?_
 obtain ⟨t', rfl⟩ := intItems_at hv
 exact ⟨.int _, H, I.kept (t' := t) k, ⟨t', rfl⟩, q _ hm⟩
def GQ (K : PySem.W.Frag) (ta : TA) (td : TE) : TE := fun σ H Q => ta σ H fun vs H1 => td σ H1 fun _ H2 => ∃ (p : Addr) (ns : List Int), vs = [.ref p] ∧ SqL K H2 p (ns.map V.int) ∧ 0 < ns.length ∧ ∀ M, qN M ns → Q (.int M) H2
theorem Dm {a d : Expr} {ta : TA} {td : TE} {p pos kpos : Pos} (hc : X.calm = true) (hg : Gl X "min") (hm : X.mg "min" = none) (ha : PA X [a] ta) (hd : PE X d td)
  (hv : bootBuiltins "min" = some (.builtin "min"))
  (he : backTo pos (starEach [a] X.env) = (false, eval a X.env) :: backTo pos (starEach [] X.env) := by rfl) (hpl : (backTo pos (starEach [a] X.env)).any (·.1) = false := by rfl)
  (hks : (backToKw pos (keywordEach [⟨some (Str.ofString "default"), d, kpos⟩] X.env)).filterMap (·.1) = [Str.ofString "default"] := by rfl)
  (hall : (backToKw pos (keywordEach [⟨some (Str.ofString "default"), d, kpos⟩] X.env)).all (·.1.isSome) = true := by rfl)
  (hkw : (backToKw pos (keywordEach [⟨some (Str.ofString "default"), d, kpos⟩] X.env)).any (·.1.isNone) = false := by rfl) :
  PE X (.Call (.Name "min" p) [a] [⟨some (Str.ofString "default"), d, kpos⟩] pos) (GQ X.K ta td) := by
 intro pins s σ H Q I h
 refine wpAny_Call_Name_kw (dC I hg hm hv ?_)
 refine PyProof.Rows.callWith_kw (thn (ha pos pins s σ H _ I h) fun us s1 ⟨vs, H1, I1, r1, q1⟩ => ?_) he hpl hall hkw
 show wpAny _ _ (evalAll ((do let v ← eval d X.env; standAt pos; pure v) :: [])) _ _ s1
 refine wpAny_evalAll_cons (wpAny_bind (thn (hd pins s1 σ H1 _ I1 q1) fun dv s2 ⟨x, H2, I2, _, q2⟩ => wpAny_bind (wpAny_standAt (wpAny_pure (wpAny_evalAll_nil ?_)))))
 obtain ⟨b, ns, rfl, hq, hne, q⟩ := q2
 obtain ⟨u, rfl, rx⟩ := vals1 r1
 cases rx
 rw [hks]
 obtain ⟨its, r', pl, hz⟩ := I2.list hq
 have hi := intsAre_of r'
 obtain ⟨qs, e⟩ := hi.allInts.items
 obtain ⟨hsz, hmn⟩ := qX hi e hne
 refine ie (zs := qs) (I.ok.hd hc) (by rw [← e]; exact pl.isList) hsz fun v g t hv k => ?_
 obtain ⟨t', rfl⟩ := intItems_at hv
 exact ⟨.int _, H2, I2.kept (t' := t) k, ⟨t', rfl⟩, q _ hmn⟩
end
end L2
set_option Elab.async false
set_option linter.all false
set_option maxRecDepth 100000
set_option maxHeartbeats 4000000
namespace L2
open PySem PySem.Spec PyProof.Rows
def Its (lo st : Int) (n : Nat) : It := ⟨fun i _ => i < n, fun i H x H' => H' = H ∧ x = .int (lo + i * st), fun i _ => n ≤ i⟩
theorem tY {P : Program} {w : World} {K : PySem.W.Frag} {tg : Expr} (it : Addr) (lo st : Int) (n : Nat) : Turn P w K tg (Its lo st n) [it] it (fun i h => IsRangeIter h it (lo + (i : Nat) * st) ((n : Int) - (i : Nat)) st) where
 mem := by simp
 obj := fun i h q b hb => by
  have e : b = it := by simpa using hb
  subst e
  exact ⟨_, q, fun v z => by
   have z' : Data.fields _ = Data.cell v := z
   cases z'⟩
 keep := fun i h h' q k => k it (by simp) _ q
 item := by
  intro X hP hw hK hc i pins s σ H E I hf q hg
  subst hP hw hK
  obtain ⟨f0, f1, f2, f3, f4, f5⟩ := hf it (by simp)
  have W := Walks.range (prog := X.prog) (w := X.w) (I.ok.hd hc) it lo st n
  refine W.item i s _ _ hg q fun v h' tk hv q' kk => ?_
  obtain ⟨t, rfl⟩ := hv
  have I1 : Inv X pins σ H { s with heap := h', toks := tk } := I.turned (fun b o hb e => kk b o (by simpa using hb) e) f0 f1 f3 f4 f5
  exact ⟨_, rfl, yR (s := { s with heap := h', toks := tk }) (n := "range_iterator") q' rfl rfl (by decide) ⟨.int (lo + i * st), H, I1, ⟨t, rfl⟩, ⟨rfl, rfl⟩, q', fun b hb => (hf b hb).1⟩⟩
 done := by
  intro X hP hw hK hc i pins s σ H E I hf q hg
  subst hP hw hK
  obtain ⟨f0, f1, f2, f3, f4, f5⟩ := hf it (by simp)
  exact wpAny_pyNext_range_end (I.ok.hd hc) q (by have : n ≤ i := hg; omega) fun h' eb => ⟨rfl, I.turned (t' := s.toks) (fun b o hb e => eb b o hb e) f0 f1 f3 f4 f5⟩
 self := fun _ _ _ _ _ q h => wpAny_pyIter_rangeiter q h
section
variable {X : Cx} {tg : Expr}
def Gk (ta : TA) : TI := fun σ H R => ta σ H fun vs H1 => ∃ b : Nat, vs = [.int 0, .int (b : Int), .int 32] ∧ b < 536870912 ∧ R (Its 0 32 ((b + 31) / 32)) H1
theorem yS (b : Nat) : Builtin.Range.rangeSize 0 b 32 = (((b + 31) / 32 : Nat) : Int) := by
 unfold Builtin.Range.rangeSize
 rw [if_pos (by decide)]
 split <;> omega
theorem lq {p q : Bool} (hp : p = true) (hq : q = true) : (p && q) = true := by rw [hp, hq]; rfl
theorem Bf {b : Nat} (h : b < 536870912) : Builtin.Range.small 0 b 32 = true := by
 unfold Builtin.Range.small Builtin.Range.rangeFitsLong
 rw [yS]
 generalize hn : (((b + 31) / 32 : Nat) : Int) = n
 have h1 : n ≤ 16777216 := by omega
 have h0 : 0 ≤ n := by omega
 have e : (2 : Int) ^ 63 = 9223372036854775808 := by decide
 rw [e, if_pos (by decide)]
 refine lq (lq (lq (lq (by decide) (lq (decide_eq_true ?_) (decide_eq_true ?_))) (by decide)) (lq (decide_eq_true ?_) (decide_eq_true ?_))) ?_
 ·omega
 ·omega
 ·omega
 ·omega
 ·rw [Bool.or_eq_true]
  exact .inr (lq (decide_eq_true (by omega)) (decide_eq_true (by omega)))
theorem zU {a b c : Expr} {ta : TA} {p pos : Pos} (hg : Gl X "range") (hm : X.mg "range" = none) (ha : PA X [a, b, c] ta) (hs : starEach [a, b, c] X.env = [(false, eval a X.env), (false, eval b X.env), (false, eval c X.env)] := by rfl)
  (hs2 : starEach [b, c] X.env = [(false, eval b X.env), (false, eval c X.env)] := by rfl) : PI X tg (.Call (.Name "range" p) [a, b, c] [] pos) (Gk ta) := by
 intro pins s σ H R I h
 refine Call_ (dC I hg hm boot_range (PyProof.Rows.callWith_type1 (thn (ha pos pins s σ H _ I h) fun us s1 ⟨vs, H1, I1, r1, q1⟩ => ?_) (by rw [hs, hs2]) (by rw [hs2]; rfl)))
 obtain ⟨y, e, l1, q⟩ := q1
 subst e
 cases r1 with
 | cons r rr =>
  cases rr with
  | cons r' rr =>
   cases rr with
   | cons r'' rr =>
    cases rr
    obtain ⟨t, rfl⟩ := r
    obtain ⟨t', rfl⟩ := r'
    obtain ⟨t'', rfl⟩ := r''
    refine call_range_3 (by decide) ?_ (.inl (PyProof.noPylong_small (by omega)))
    refine wpAny_pyIter_range (IsRange.new ..) (Bf l1) ?_
    have I2 : Inv X pins σ H1 { s1 with heap := s1.heap.push { cls := .type "range", data := .fields #[.int 0 t, .int y t', .int 32 t''] }, toks := s1.toks } := I1.kept fun b o e => Heap.get?_push_of_some _ e
    refine ⟨(s1.heap.push { cls := .type "range", data := .fields #[.int 0 t, .int y t', .int 32 t''] }).objs.size, [(s1.heap.push { cls := .type "range", data := .fields #[.int 0 t, .int y t', .int 32 t''] }).objs.size], _, _, H1, rfl,
     I2.kept (t' := s1.toks) fun b o e => Heap.get?_push_of_some _ e, tY _ 0 32 ((y + 31) / 32), ?_, fun b hb => ?_, q⟩
    ·have e1 : (0 : Int) + ((0 : Nat) : Int) * 32 = 0 := by decide
     have e2 : (((y + 31) / 32 : Nat) : Int) - ((0 : Nat) : Int) = Builtin.Range.rangeSize 0 y 32 := by rw [yS]; simp
     show IsRangeIter _ _ ((0 : Int) + ((0 : Nat) : Int) * 32) ((((y + 31) / 32 : Nat) : Int) - ((0 : Nat) : Int)) 32
     rw [e1, e2]
     exact Heap.get?_push_size _ rfl
    ·have e : b = (s1.heap.push { cls := .type "range", data := .fields #[.int 0 t, .int y t', .int 32 t''] }).objs.size := by simpa using hb
     subst e
     exact I2.fpOk (Nat.le_refl _) (I2.hok.fresh (Nat.le_refl _))
end
theorem vZ {lo st : Int} {n : Nat} {g : TG} {tb : TS} {D : Ends} {σ : St} {H : Hp} (Pv : Nat → St → Hp → Prop) (h0 : Pv 0 σ H)
  (hs : ∀ (i : Nat) σ H, i < n → Pv i σ H → g (.int (lo + i * st)) σ H fun σ2 H2 => tb { D with nx := Pv (i + 1), ct := Pv (i + 1), bk := D.nx } σ2 H2) (hd : ∀ σ H, Pv n σ H → D.nx σ H) :
  ∃ W : Nat → Nat → St → Hp → Prop, (∃ m, W 0 m σ H) ∧ ∀ i m σ H, W i m σ H →
   ((Its lo st n).stop i H ∧ D.nx σ H) ∨ ((Its lo st n).go i H ∧ ∃ N : St → Hp → Prop, (∀ σ' H', N σ' H' → ∃ m', m' < m ∧ W (i + 1) m' σ' H') ∧ ∀ x H', (Its lo st n).yld i H x H' → g x σ H' fun σ2 H2 => tb { D with nx := N, ct := N, bk := D.nx } σ2 H2) := by
 refine ⟨fun i m σ H => m = n - i ∧ i ≤ n ∧ Pv i σ H, ⟨n, by simp, Nat.zero_le _, h0⟩, ?_⟩
 rintro i m σ H ⟨rfl, hi, p⟩
 by_cases hlt : i < n
 ·refine .inr ⟨hlt, Pv (i + 1), fun σ' H' p' => ⟨n - (i + 1), by omega, rfl, hlt, p'⟩, fun x H' y => ?_⟩
  obtain ⟨rfl, rfl⟩ := y
  exact hs i σ _ hlt p
 ·have e : i = n := by omega
  subst e
  exact .inl ⟨Nat.le_refl _, hd σ H p⟩
def Itv (K : PySem.W.Frag) (a : Addr) (xs : List V) : It :=
 ⟨fun i H => SqL K H a xs ∧ i < xs.length, fun i H x H' => H' = H ∧ xs[xs.length - 1 - i]? = some x, fun i _ => xs.length ≤ i⟩
theorem Bg {P : Program} {w : World} {K : PySem.W.Frag} {tg : Expr} (a it : Addr) (xs : List V) : Turn P w K tg (Itv K a xs) [it] it (fun i h => i ≤ xs.length ∧ h.IsRevIter it a ((xs.length : Int) - 1 - (i : Nat))) where
 mem := by simp
 obj := fun i h st b hb => by
  have e : b = it := by simpa using hb
  subst e
  obtain ⟨_, o, e, c, d⟩ := st
  exact ⟨o, e, fun v z => by rw [d] at z; cases z⟩
 keep := fun i h h' st k => ⟨st.1, st.2.at fun o e => k it (by simp) o e⟩
 item := by
  intro X hP hw hK hc i pins s σ H E I hf st hg
  subst hP hw hK
  obtain ⟨hq, hi⟩ := hg
  obtain ⟨its, rv, p, hz⟩ := I.list hq
  obtain ⟨x, hx⟩ : ∃ x, xs[xs.length - 1 - i]? = some x := ⟨_, List.getElem?_eq_getElem (by omega)⟩
  obtain ⟨u, hu, ru⟩ := rv.get hx
  obtain ⟨f0, f1, f2, f3, f4, f5⟩ := hf it (by simp)
  obtain ⟨hle, st⟩ := st
  have e : (xs.length : Int) - 1 - (i : Nat) = ((xs.length - 1 - i : Nat) : Int) := by omega
  rw [e] at st
  refine wpAny_pyNext_rev_item st p.isList (x := u) (by simpa using hu) fun h' st' sb => ?_
  have I1 : Inv X pins σ H { s with heap := h' } := I.turned (t' := s.toks) (fun b o hb e => (sb.2 b hb).trans e) f0 f1 f3 f4 f5
  have e2 : ((xs.length - 1 - i : Nat) : Int) - 1 = (xs.length : Int) - 1 - ((i + 1 : Nat) : Int) := by omega
  rw [e2] at st'
  obtain ⟨o, e, c, d⟩ := id st'
  exact ⟨u, rfl, yR (s := { s with heap := h' }) e c d (by decide) ⟨x, H, I1, ru, ⟨rfl, hx⟩, ⟨by omega, st'⟩, fun b hb => (hf b hb).1⟩⟩
 done := by
  intro X hP hw hK hc i pins s σ H E I hf st hg
  subst hP hw hK
  obtain ⟨f0, f1, f2, f3, f4, f5⟩ := hf it (by simp)
  obtain ⟨hle, st⟩ := st
  have e : (xs.length : Int) - 1 - (i : Nat) = -1 := by have : xs.length ≤ i := hg; omega
  rw [e] at st
  exact wpAny_pyNext_rev_end (I.ok.hd hc) st fun h' eb => ⟨rfl, I.turned (t' := s.toks) (fun b o hb e => eb b o hb e) f0 f1 f3 f4 f5⟩
 self := fun _ _ _ _ _ st h => wpAny_pyIter_revIter st.2 h
section
variable {X : Cx} {tg : Expr}
def Hq (K : PySem.W.Frag) (ta : TA) : TI := fun σ H R => ta σ H fun vs H1 => ∃ a xs, vs = [.ref a] ∧ SqL K H1 a xs ∧ R (Itv K a xs) H1
theorem Az {a : Expr} {ta : TA} {p pos : Pos} (hg : Gl X "reversed") (hm : X.mg "reversed" = none) (ha : PA X [a] ta) (hv : bootBuiltins "reversed" = some (.type "reversed")) (hs : starEach [a] X.env = [(false, eval a X.env)] := by rfl) :
  PI X tg (.Call (.Name "reversed" p) [a] [] pos) (Hq X.K ta) := by
 intro pins s σ H R I h
 refine Call_ (dC I hg hm hv (PyProof.Rows.callWith_type1 (thn (ha pos pins s σ H _ I h) fun us s1 ⟨vs, H1, I1, r1, q1⟩ => ?_) hs rfl))
 obtain ⟨b, xs, e, hq, q⟩ := q1
 subst e
 obtain ⟨u, rfl, rx⟩ := vals1 r1
 cases rx
 obtain ⟨its, rv, pl, hz⟩ := I1.list hq
 refine call_reversed_list pl.isList ?_
 have hl := rv.length
 have st : ({ s1 with heap := s1.heap.push (revObj b ((its.toArray.size : Int) - 1)) } : Shared).heap.IsRevIter s1.heap.objs.size b ((xs.length : Int) - 1 - ((0 : Nat) : Int)) := by
  refine ⟨_, Heap.get?_push_size _ rfl, rfl, ?_⟩
  show Data.fields #[.ref b, rawInt ((its.toArray.size : Int) - 1)] = _
  have e : (its.toArray.size : Int) - 1 = (xs.length : Int) - 1 - ((0 : Nat) : Int) := by simp; omega
  rw [e]
 refine wpAny_pyIter_revIter st ?_
 have I2 : Inv X pins σ H1 { s1 with heap := s1.heap.push (revObj b ((its.toArray.size : Int) - 1)) } := I1.kept (t' := s1.toks) fun c o e => Heap.get?_push_of_some _ e
 refine ⟨s1.heap.objs.size, [s1.heap.objs.size], _, Itv X.K b xs, H1, rfl, I2, Bg b _ xs, ⟨Nat.zero_le _, st⟩, fun c hc => ?_, q⟩
 have e : c = s1.heap.objs.size := by simpa using hc
 subst e
 exact I1.fpOk (Nat.le_refl _) (I1.hok.fresh (Nat.le_refl _))
end
theorem zb {K : PySem.W.Frag} {a : Addr} {xs : List V} {g : TG} {tb : TS} {D : Ends} {σ : St} {H : Hp} (Pv : Nat → St → Hp → Prop) (h0 : Pv 0 σ H) (hl : ∀ i σ H, i ≤ xs.length → Pv i σ H → SqL K H a xs)
  (hs : ∀ i x σ H, i < xs.length → xs[xs.length - 1 - i]? = some x → Pv i σ H → g x σ H fun σ2 H2 => tb { D with nx := Pv (i + 1), ct := Pv (i + 1), bk := D.nx } σ2 H2) (hd : ∀ σ H, Pv xs.length σ H → D.nx σ H) :
  ∃ W : Nat → Nat → St → Hp → Prop, (∃ m, W 0 m σ H) ∧ ∀ i m σ H, W i m σ H →
   ((Itv K a xs).stop i H ∧ D.nx σ H) ∨ ((Itv K a xs).go i H ∧ ∃ N : St → Hp → Prop, (∀ σ' H', N σ' H' → ∃ m', m' < m ∧ W (i + 1) m' σ' H') ∧ ∀ x H', (Itv K a xs).yld i H x H' → g x σ H' fun σ2 H2 => tb { D with nx := N, ct := N, bk := D.nx } σ2 H2) := by
 refine ⟨fun i m σ H => m = xs.length - i ∧ i ≤ xs.length ∧ Pv i σ H, ⟨xs.length, by simp, Nat.zero_le _, h0⟩, ?_⟩
 rintro i m σ H ⟨rfl, hi, p⟩
 by_cases hlt : i < xs.length
 ·refine .inr ⟨⟨hl i σ H hi p, hlt⟩, Pv (i + 1), fun σ' H' p' => ⟨xs.length - (i + 1), by omega, rfl, hlt, p'⟩, fun x H' y => ?_⟩
  obtain ⟨rfl, hx⟩ := y
  exact hs i x σ _ hlt hx p
 ·have e : i = xs.length := by omega
  subst e
  exact .inl ⟨Nat.le_refl _, hd σ H p⟩
end L2
set_option Elab.async false
set_option linter.all false
set_option maxRecDepth 100000
set_option maxHeartbeats 4000000
namespace L2
open PySem PySem.Spec PyProof.Rows
section
variable {prog : Program} {w : World} {A : Around} {E : Value → Shared → Prop} {s : Shared}
theorem vQ {T newId initId : String} {Bn Bi : Builtin} {args : List Value} {kw : List (Str × Value)} {S : _root_.PySem.Spec} {Q Q1 : Value → Shared → Prop} (ft : TypeCalled T newId initId)
  (hct : checkTypeCall T ⟨args, kw⟩ = pure ()) (hcn : checkBuiltinCall newId ⟨.type T :: args, kw⟩ = pure ()) (eN : entryFor table newId = some Bn) (eI : entryFor table initId = some Bi)
  (g : Meets (Bn ⟨.type T :: args, kw⟩) S) (h : S A.in1 (wants Q1 E) s)
  (go : ∀ obj s1, Q1 obj s1 → s1.TypeIs obj T ∧ argsOk initId ⟨obj :: args, kw⟩ ∧ ∃ Si, Meets (Bi ⟨obj :: args, kw⟩) Si ∧ Si A.in1 (wants (fun r s2 => r = .none ∧ Q obj s2) E) s1) :
  wpAny (model prog w) A (call (.type T) args kw) Q E s := by
 obtain ⟨c, tl, hmro⟩ := ft.mro
 have hmade := ft.made
 have hsub := ft.sub
 refine wpAny_call (codeAny_of_tree ?_)
 show wpAny _ _ (callAny (.type T) _) _ _ _
 refine wpAny_pure ⟨Code.quiet_builtin _ (by decide +kernel), codeAny_builtin PySem.F.entry_type_call ?_⟩
 rw [Around.under_plain (weight_type_call_type T args kw) (units_type_call_type T args kw)]
 have n1 := ft.notType
 have n2 := ft.canCreate
 repeat (any_goals (first | assumption | wp_step))
 refine codeAny_mono (codeAny_call_builtin ft.plain eN (wpAny_of_eq hcn (g prog w A.in1 _ s h))) fun r s1 hr => ?_
 cases r with
 | error e => exact hr
 | ok fl =>
  cases fl with
  | ret obj =>
   obtain ⟨hT, hok, Si, gi, hsi⟩ := go _ _ hr
   have hli := ft.init.lookup
   have hbi := ft.init.bind obj
   repeat (any_goals (first | assumption | wp_step))
   refine codeAny_mono (codeAny_call_builtin ft.init.plain eI (ft.init.check _ _ _ _ _ _ _ _ hT hok (gi prog w A.in1 _ s1 hsi))) fun r2 s2 hr2 => ?_
   cases r2 with
   | error e => exact hr2
   | ok fl2 =>
    cases fl2 with
    | ret r =>
     obtain ⟨rfl, hq⟩ := hr2
     repeat (any_goals (first | assumption | wp_step))
    | _ => exact hr2.elim
  | _ => exact hr.elim
theorem vP {T newId : String} {self : Value} {rest : List Value} {kw : List (Str × Value)} (hl : typeLookup (.type T) "__init__" = pure (some (.builtin "object.__init__")))
  (hm : Bind.madeBy (.type T) = pure (some newId)) (hne : (some newId != some "object.__new__") = true) :
  Meets (Builtin.«object.__init__» ⟨self :: rest, kw⟩) (fun _ R s => s.TypeIs self T ∧ R (.ok (.ret .none)) s) := by
 refine Meets.of_wp fun prog w A R s hs => ?_
 obtain ⟨hT, hq⟩ := hs
 cases rest with
 | nil =>
  cases kw with
  | nil => exact wpAny_pure ⟨_, rfl, hq⟩
  | cons p kw =>
   repeat (any_goals (first | assumption | wp_step))
   exact ⟨_, rfl, hq⟩
 | cons a rest =>
  repeat (any_goals (first | assumption | wp_step))
  exact ⟨_, rfl, hq⟩
end
theorem xg (a v : Value) : checkTypeCall "enumerate" ⟨[a], [(Str.ofString "start", v)]⟩ = pure () := by kernel_rfl
theorem zH (a v : Value) : checkBuiltinCall "enumerate.__new__" ⟨[.type "enumerate", a], [(Str.ofString "start", v)]⟩ = pure () := by kernel_rfl
theorem xT (o a v : Value) : argsOk "object.__init__" ⟨[o, a], [(Str.ofString "start", v)]⟩ := by
 unfold argsOk
 rw [signature?_of (id := "object.__init__") (n := ['_', '_', 't', 'i', 'n', 'i', '_', '_']) (o := ['t', 'c', 'e', 'j', 'b', 'o']) (by kernel_rfl) PySem.F.owner_object]
 kernel_rfl
open AutoSeq1 (wpAny_loadPart') in
set_option maxHeartbeats 4000000 in
theorem wR (l : Addr) (items : Array Value) (n : Nat) (dct : Option Addr) (sl : Array (Option Value)) (t : Tok) :
  Meets (Builtin.«enumerate.__new__» ⟨[.type "enumerate", .ref l], [(Str.ofString "start", .int 1 t)]⟩) (fun _ R s => s.heap.get? l = some { cls := .type "list", dict := dct, data := .seq items n, slots := sl } ∧
   R (.ok (.ret (.ref (s.heap.push { cls := .type "list_iterator", data := .fields #[.ref l, .int 0 0] }).objs.size)))
    { s with heap := (s.heap.push { cls := .type "list_iterator", data := .fields #[.ref l, .int 0 0] }).push { cls := .type "enumerate", data := .fields #[.none, .bool false, .ref s.heap.objs.size, rawInt 1, .none, .none] } }) :=
 .of_wp fun prog w A R s h => by
  obtain ⟨hp, g, d, tk, os⟩ := s
  obtain ⟨hl, h⟩ := h
  have hsub := sub_enumerate
  have hL : Heap.IsList (Shared.heap ⟨hp, g, d, tk, os⟩) l items := ⟨_, hl, rfl, n, rfl⟩
  wp_walk using wpAny_loadPart' hl
  refine wpAny_stack_any fun st => wpAny_pure ?_
  split
  ·rename_i c _ _ _ _ _
   cases (c == Value.type "enumerate")
   ·wp_walk using wpAny_loadPart' hl, wpAny_pyIter_list hL
    exact ⟨_, rfl, h⟩
   ·wp_walk using wpAny_loadPart' hl, wpAny_pyIter_list hL
    exact ⟨_, rfl, h⟩
  ·wp_walk using wpAny_loadPart' hl, wpAny_pyIter_list hL
   exact ⟨_, rfl, h⟩
section
variable {prog : Program} {w : World} {A : Around} {E : Value → Shared → Prop} {s : Shared}
theorem xU {l : Addr} {items : Array Value} {t : Tok} {Q : Value → Shared → Prop} (hL : s.heap.IsList l items)
  (h : ∀ g, IsEnum g (s.heap.objs.size + 1) s.heap.objs.size 1 .none → g.IsListIter s.heap.objs.size l 0 → (∀ b o, s.heap.get? b = some o → g.get? b = some o) → Q (.ref (s.heap.objs.size + 1)) { s with heap := g }) :
  wpAny (model prog w) A (call (.type "enumerate") [.ref l] [(Str.ofString "start", .int 1 t)]) Q E s := by
 obtain ⟨⟨c, dct, dt, sl⟩, hl, hc, n, hd⟩ := hL
 replace hc : c = .type "list" := hc
 replace hd : dt = .seq items n := hd
 subst hc hd
 have hz : (s.heap.push { cls := .type "list_iterator", data := .fields #[.ref l, .int 0 0] }).objs.size = s.heap.objs.size + 1 := Heap.size_push ..
 refine vQ (Q1 := fun obj s1 => s1.TypeIs obj "enumerate" ∧ Q obj s1) PySem.F.called_enumerate (xg _ _) (zH _ _) PySem.F.entry_enumerate_new PySem.F.entry_object_init (wR l items n dct sl t) ⟨hl, ?_⟩ fun obj s1 hq =>
  ⟨hq.1, xT _ _ _, _, vP PySem.F.called_enumerate.init.lookup PySem.F.called_enumerate.made (by decide), hq.1, rfl, hq.2⟩
 show _ ∧ _
 rw [hz]
 have he : IsEnum ((s.heap.push { cls := .type "list_iterator", data := .fields #[.ref l, .int 0 0] }).push { cls := .type "enumerate", data := .fields #[.none, .bool false, .ref s.heap.objs.size, rawInt 1, .none, .none] }) (s.heap.objs.size + 1) s.heap.objs.size 1 .none := by
  have := Heap.get?_push_size (s.heap.push { cls := .type "list_iterator", data := .fields #[.ref l, .int 0 0] }) (o := { cls := .type "enumerate", data := .fields #[.none, .bool false, .ref s.heap.objs.size, rawInt 1, .none, .none] }) rfl
  rw [hz] at this
  exact this
 exact ⟨⟨_, he, rfl⟩, h _ he ⟨_, Heap.get?_push_of_some _ (Heap.get?_push_size _ rfl), rfl, rfl⟩ fun b o q => Heap.get?_push_of_some _ (Heap.get?_push_of_some _ q)⟩
end
theorem DN {prog : Program} {w : World} {A : Around} (hh : A.handled = none) (it l : Addr) (hne : l ≠ it) (items : Array Value) :
  Draws prog w A it [it, l] (items.size + 1) (fun i v => ∃ j, i = j + 1 ∧ items[j]? = some v) (fun i h => ∃ j, i = j + 1 ∧ h.IsListIter it l j ∧ h.IsList l items) where
 live := fun _ _ st => by
  obtain ⟨j, _, st⟩ := st
  exact (Draws.list (prog := prog) (w := w) hh it l hne items).live j _ st
 frame := fun _ _ _ st k => by
  obtain ⟨j, e, st⟩ := st
  exact ⟨j, e, (Draws.list (prog := prog) (w := w) hh it l hne items).frame j _ _ st k⟩
 item := fun i s Q E hi st hQ => by
  obtain ⟨j, rfl, st⟩ := st
  exact (Draws.list (prog := prog) (w := w) hh it l hne items).item j s Q E (by omega) st fun x g t p q r => hQ x g t ⟨j, rfl, p⟩ ⟨j + 1, rfl, q⟩ r
 done := fun s Q E st hE => by
  obtain ⟨j, e, st⟩ := st
  have : j = items.size := by omega
  subst this
  exact (Draws.list (prog := prog) (w := w) hh it l hne items).done s Q E st hE
def Itu (K : PySem.W.Frag) (a : Addr) : It :=
  ⟨fun i H => ∃ xs x, SqL K H a xs ∧ xs[i]? = some x, fun i H x H' => ∃ p y, H p = none ∧ x = .ref p ∧ H' = upd H p (.tup [.int ((i + 1 : Nat) : Int), y]) ∧ ∀ xs, SqL K H a xs → xs[i]? = some y,
   fun i H => ∃ xs, SqL K H a xs ∧ xs.length ≤ i⟩
theorem Bv {prog : Program} {w : World} {A : Around} {E : Value → Shared → Prop} {s : Shared} {e it l : Addr} {i : Nat} {k : Int} {items : Array Value} {old : Value} {Q : Option Value → Shared → Prop} (hh : A.handled = none)
  (he : IsEnum s.heap e it k old) (hit : s.heap.IsListIter it l i) (hl : s.heap.IsList l items) (hx : items[i]? = none) (hQ : ∀ g, Heap.ExtBut it s.heap g → Q none { s with heap := g }) : wpAny (model prog w) A (pyNext (.ref e)) Q E s := by
 have hT : s.TypeIs (.ref e) "enumerate" := ⟨_, he, rfl⟩
 unfold pyNext
 refine wpAny_bind (wpAny_attempt (wpAny_callSpecial?_slot (name := Str.ofString "__next__") hT PySem.F.slot_enumerate_next
  (wpAny_call_entry PySem.F.slot_enumerate_next hT PySem.F.entry_enumerate_next ?_ (PySem.F.args_enumerate_next_1 _))))
 show wpAny _ _ (field (.ref e) 2 >>= _) _ _ _
 refine wpAny_bind (wpAny_field he rfl (x := .ref it) rfl ?_)
 refine wpAny_bind (wpAny_nextOf_list_end hh hit hl hx fun g x hg hx' => ?_)
 obtain ⟨o, ho, hc⟩ := hx'
 refine wpAny_bind (wpAny_isInstance (T := "StopIteration") (b := true) ⟨o, ho, hc⟩ isSubtype_stop ?_)
 exact wpAny_pure (hQ _ hg)
theorem mZ {h : Heap} {a b : Addr} {o u : Obj} (ho : h.get? a = some o) (hu : h.get? b = some u) (hc : o.cls ≠ u.cls) : a ≠ b := by
 rintro rfl
 rw [ho] at hu
 cases hu
 exact hc rfl
theorem yh {P : Program} {w : World} {K : PySem.W.Frag} {elts : List Expr} {x1 : Nat} {tpos : Pos} (a e it : Addr) (hne : e ≠ it) :
  Turn P w K (.Tuple elts x1 tpos) (Itu K a) [e, it] e (fun i h => (∃ old, IsEnum h e it ((i + 1 : Nat) : Int) old) ∧ h.IsListIter it a i) where
 mem := by simp
 obj := fun i h st b hb => by
  obtain ⟨⟨old, he⟩, o, ho, hc, hd⟩ := st
  rcases List.mem_cons.mp hb with rfl | hb
  ·exact ⟨_, he, fun v z => by cases z⟩
  ·rw [List.mem_singleton.mp hb]
   exact ⟨o, ho, fun v z => by rw [hd] at z; cases z⟩
 keep := fun i h h' st k => by
  obtain ⟨⟨old, he⟩, st⟩ := st
  exact ⟨⟨old, k e (by simp) _ he⟩, st.at fun o q => k it (by simp) o q⟩
 item := by
  intro X hP hw hK hc i pins s σ H E I hf st hg
  subst hP hw hK
  obtain ⟨xs, x, hq, hx⟩ := hg
  obtain ⟨its, rv, p, hz⟩ := I.list hq
  obtain ⟨u, hu, ru⟩ := rv.get hx
  obtain ⟨⟨old, he⟩, st⟩ := st
  obtain ⟨oi, hoi, hci, _⟩ := id st
  obtain ⟨ol, hol, hcl, _⟩ := id p.isList
  have nai : a ≠ it := mZ hol hoi (by rw [hcl, hci]; decide)
  have nae : e ≠ a := mZ he hol (by rw [hcl]; show Value.type "enumerate" ≠ Value.type "list"; decide)
  have hlt : i < its.length := (List.getElem?_eq_some_iff.mp hu).1
  refine wpAny_pyNext_enum_itemD (DN (A := X.A.in1) (I.ok.hd hc) it a nai its.toArray) he ⟨i, rfl, st, p.isList⟩ (by simpa using hlt) hne (by simp [hne, nae]) fun u' h1 tk hP heo hit1 ht1 hz1 hk1 => ?_
  obtain ⟨j, hj, hu'⟩ := hP
  have ej : j = i := by omega
  subst ej
  have eu : u' = u := by
   have : its[j]? = some u' := by simpa using hu'
   rw [hu] at this
   exact (Option.some.inj this).symm
  subst eu
  obtain ⟨j', hj', hit1, _⟩ := hit1
  have ej' : j' = j + 1 := by omega
  subst ej'
  refine ⟨_, rfl, wpAny_letOwnedTupleGo_enum heo fun h2 he2 hs2 => ?_⟩
  have ee : e < s.heap.objs.size := Heap.lt_size he
  have g2 : h2.get? s.heap.objs.size = some { cls := .type "tuple", data := .seq #[.int ((j + 1 : Nat) : Int) tk, u'] } := (hs2.2 _ (Nat.ne_of_gt ee)).trans ht1
  have kk : ∀ b o, b ≠ e → b ≠ it → s.heap.get? b = some o → h2.get? b = some o := fun b o h3 h4 q => (hs2.2 b h3).trans (hk1 b o h3 h4 q)
  have new : bN X.prog X.w (upd H s.heap.objs.size (.tup [.int ((j + 1 : Nat) : Int), x])) h2 s.heap.objs.size (.tup [.int ((j + 1 : Nat) : Int), x]) :=
   ⟨(by show 2 ≤ sizeLine; decide), [.int ((j + 1 : Nat) : Int) tk, u'], .cons ⟨_, rfl⟩ (.cons ru .nil), _, g2, rfl, _, rfl⟩
  have I2 := I.turn2 (h' := h2) (t' := tk + 1) (hf e (by simp)) (hf it (by simp)) kk (Nat.le_refl _) new
  have hn : H s.heap.objs.size = none := I.hok.fresh (Nat.le_refl _)
  refine ⟨.ref s.heap.objs.size, _, I2, rfl, ⟨_, x, hn, rfl, rfl, fun ys hy => by rw [I.list_inj hy hq]; exact hx⟩, ⟨⟨u', by simpa using he2⟩, hit1.extBut hs2.extBut (Ne.symm hne)⟩, fun b hb => ?_⟩
  have hbn := (hf b hb).1
  have hbs : b ≠ s.heap.objs.size := by
   rcases List.mem_cons.mp hb with rfl | hb
   ·exact Nat.ne_of_lt ee
   ·rw [List.mem_singleton.mp hb]
    exact Nat.ne_of_lt (Heap.lt_size hoi)
  rw [aH hbs]
  exact hbn
 done := by
  intro X hP hw hK hc i pins s σ H E I hf st hg
  subst hP hw hK
  obtain ⟨xs, hq, hx⟩ := hg
  obtain ⟨its, rv, p, hz⟩ := I.list hq
  obtain ⟨f0, f1, f2, f3, f4, f5⟩ := hf it (by simp)
  obtain ⟨⟨old, he⟩, st⟩ := st
  have hl := rv.length
  obtain ⟨oi, hoi, hci, _⟩ := id st
  obtain ⟨ol, hol, hcl, _⟩ := id p.isList
  have nai : a ≠ it := mZ hol hoi (by rw [hcl, hci]; decide)
  refine Bv (I.ok.hd hc) he st p.isList (by simp; omega) fun h' eb => ⟨rfl, I.turned (t' := s.toks) (fun b o hb e => eb b o hb e) f0 f1 f3 f4 f5⟩
 self := fun _ _ _ _ _ st h => by
  obtain ⟨⟨old, he⟩, _⟩ := st
  exact wpAny_pyIter_enum he h
section
variable {M : Model} {A : Around} {E : Value → Shared → Prop} {s : Shared} {env : Env}
theorem qK {pos : Pos} {T : String} {e : Expr} {rest : List Expr} {kws : List Keyword} {Q : Value → Shared → Prop}
  (h : wpAny M A (spliced (backTo pos (starEach (e :: rest) env))) (fun vs s1 => wpAny M A (evalAll ((backToKw pos (keywordEach kws env)).map (·.2)))
   (fun ws s2 => wpAny M A (call (.type T) vs (((backToKw pos (keywordEach kws env)).filterMap (·.1)).zip ws)) Q E s2) E s1) E s)
  (he : backTo pos (starEach (e :: rest) env) = (false, eval e env) :: backTo pos (starEach rest env) := by rfl) (hp : (backTo pos (starEach (e :: rest) env)).any (·.1) = false := by rfl)
  (hall : (backToKw pos (keywordEach kws env)).all (·.1.isSome) = true := by rfl) (hkw : (backToKw pos (keywordEach kws env)).any (·.1.isNone) = false := by rfl) :
  wpAny M A (callWith pos (.type T) [] (backTo pos (starEach (e :: rest) env)) (backToKw pos (keywordEach kws env))) Q E s := by
 unfold callWith
 have h2 : wpAny M A (evalArgs (.type T) true (backTo pos (starEach (e :: rest) env)) (backToKw pos (keywordEach kws env))) (fun a s1 => wpAny M A (call (.type T) ([] ++ a.pos) a.kw) Q E s1) E s := by
  rw [he] at h ⊢
  exact PyProof.Rows.evalArgs_kwB hall h
 refine wpAny_bind (wpAny_holding (thn h2 fun a s1 h1 => wpAny_bind (wpAny_standAt ?_)))
 simp only [hp, hkw, Bool.or_false]
 refine wpAny_bind (wpAny_pure ?_)
 exact wpAny_bind (thn h1 fun r s2 hr => wpAny_bind (wpAny_holding (wpAny_point (wpAny_pure hr))))
end
section
variable {X : Cx}
def Es (K : PySem.W.Frag) (ta : TA) (td : TE) : TI := fun σ H R => ta σ H fun vs H1 => td σ H1 fun d H2 => ∃ a xs, d = .int 1 ∧ vs = [.ref a] ∧ SqL K H2 a xs ∧ R (Itu K a) H2
theorem vN {a d : Expr} {ta : TA} {td : TE} {p pos kpos : Pos} {elts : List Expr} {x1 : Nat} {tpos : Pos} (hg : Gl X "enumerate") (hm : X.mg "enumerate" = none) (ha : PA X [a] ta) (hd : PE X d td)
  (he : backTo pos (starEach [a] X.env) = (false, eval a X.env) :: backTo pos (starEach [] X.env) := by rfl) (hpl : (backTo pos (starEach [a] X.env)).any (·.1) = false := by rfl)
  (hks : (backToKw pos (keywordEach [⟨some (Str.ofString "start"), d, kpos⟩] X.env)).filterMap (·.1) = [Str.ofString "start"] := by rfl)
  (hall : (backToKw pos (keywordEach [⟨some (Str.ofString "start"), d, kpos⟩] X.env)).all (·.1.isSome) = true := by rfl)
  (hkw : (backToKw pos (keywordEach [⟨some (Str.ofString "start"), d, kpos⟩] X.env)).any (·.1.isNone) = false := by rfl) :
  PI X (.Tuple elts x1 tpos) (.Call (.Name "enumerate" p) [a] [⟨some (Str.ofString "start"), d, kpos⟩] pos) (Es X.K ta td) := by
 intro pins s σ H R I h
 refine wpAny_Call_Name_kw (dC I hg hm boot_enumerate ?_)
 refine qK (thn (ha pos pins s σ H _ I h) fun us s1 ⟨vs, H1, I1, r1, q1⟩ => ?_) he hpl hall hkw
 show wpAny _ _ (evalAll ((do let v ← eval d X.env; standAt pos; pure v) :: [])) _ _ s1
 refine wpAny_evalAll_cons (wpAny_bind (thn (hd pins s1 σ H1 _ I1 q1) fun dv s2 ⟨x, H2, I2, rd, q2⟩ => wpAny_bind (wpAny_standAt (wpAny_pure (wpAny_evalAll_nil ?_)))))
 obtain ⟨b, xs, rfl, rfl, hq, q⟩ := q2
 obtain ⟨u, rfl, rx⟩ := vals1 r1
 cases rx
 obtain ⟨td', rfl⟩ := rd
 rw [hks]
 obtain ⟨its, rv, pl, hz⟩ := I2.list hq
 refine xU pl.isList fun g he2 hit hk => ?_
 refine wpAny_pyIter_enum he2 ?_
 have I3 : Inv X pins σ H2 { s2 with heap := g } := I2.kept (t' := s2.toks) hk
 have ne : s2.heap.objs.size + 1 ≠ s2.heap.objs.size := by omega
 refine ⟨s2.heap.objs.size + 1, [s2.heap.objs.size + 1, s2.heap.objs.size], _, Itu X.K b, H2, rfl, I3, yh b _ _ ne, ⟨⟨_, he2⟩, hit⟩, fun c hc => ?_, q⟩
 have hle : s2.heap.objs.size ≤ c := by
  rcases List.mem_cons.mp hc with rfl | hc
  ·omega
  ·rw [List.mem_singleton.mp hc]
   omega
 exact I2.fpOk hle (I2.hok.fresh hle)
end
theorem tE {K : PySem.W.Frag} {a : Addr} {xs : List V} {g : TG} {tb : TS} {D : Ends} {σ : St} {H : Hp} (Pv : Nat → St → Hp → Prop) (h0 : Pv 0 σ H) (hl : ∀ i σ H, i ≤ xs.length → Pv i σ H → SqL K H a xs)
  (hs : ∀ i x σ H p, xs[i]? = some x → Pv i σ H → H p = none → g (.ref p) σ (upd H p (.tup [.int ((i + 1 : Nat) : Int), x])) fun σ2 H2 => tb { D with nx := Pv (i + 1), ct := Pv (i + 1), bk := D.nx } σ2 H2) (hd : ∀ σ H, Pv xs.length σ H → D.nx σ H) :
  ∃ W : Nat → Nat → St → Hp → Prop, (∃ m, W 0 m σ H) ∧ ∀ i m σ H, W i m σ H →
   ((Itu K a).stop i H ∧ D.nx σ H) ∨ ((Itu K a).go i H ∧ ∃ N : St → Hp → Prop, (∀ σ' H', N σ' H' → ∃ m', m' < m ∧ W (i + 1) m' σ' H') ∧ ∀ x H', (Itu K a).yld i H x H' → g x σ H' fun σ2 H2 => tb { D with nx := N, ct := N, bk := D.nx } σ2 H2) := by
 refine ⟨fun i m σ H => m = xs.length - i ∧ i ≤ xs.length ∧ Pv i σ H, ⟨xs.length, by simp, Nat.zero_le _, h0⟩, ?_⟩
 rintro i m σ H ⟨rfl, hi, p⟩
 have q := hl i σ H hi p
 by_cases hlt : i < xs.length
 ·refine .inr ⟨⟨xs, xs[i], q, by simp [hlt]⟩, Pv (i + 1), fun σ' H' p' => ⟨xs.length - (i + 1), by omega, rfl, hlt, p'⟩, fun x H' y => ?_⟩
  obtain ⟨c, y, hn, e1, e2, hy⟩ := y
  subst e1 e2
  exact hs i y σ H c (hy xs q) p hn
 ·have e : i = xs.length := by omega
  subst e
  exact .inl ⟨⟨xs, q, Nat.le_refl _⟩, hd σ H p⟩
end L2
set_option Elab.async false
set_option linter.all false
set_option maxRecDepth 100000
set_option maxHeartbeats 4000000
namespace L2
open PySem PySem.Spec PyProof.Rows
mutual
inductive lN (K : PySem.W.Frag) (H : Hp) : V → PyData → Prop where
 | non : lN K H .non .none
 | bl (b : Bool) : lN K H (.bl b) (.bool b)
 | int (i : Int) : lN K H (.int i) (.int i)
 | str (x : Str) : lN K H (.str x) (.str x)
 | lst {a : Addr} {xs : List V} {ds : List PyData} (h : SqL K H a xs) (r : jr K H xs ds) : lN K H (.ref a) (.list ds)
 | tup {a : Addr} {xs : List V} {ds : List PyData} (h : SqT K H a xs) (r : jr K H xs ds) : lN K H (.ref a) (.tuple ds)
inductive jr (K : PySem.W.Frag) (H : Hp) : List V → List PyData → Prop where
 | nil : jr K H [] []
 | cons {x : V} {xs : List V} {d : PyData} {ds : List PyData} (h : lN K H x d) (r : jr K H xs ds) : jr K H (x :: xs) (d :: ds)
end
theorem gk {K : PySem.W.Frag} {H : Hp} : ∀ ns : List Int, jr K H (ns.map V.int) (ns.map PyData.int)
 | [] => .nil
 | i :: r => .cons (.int i) (gk r)
section
variable {X : Cx} {pins : List (Addr × Obj)} {σ : St} {H : Hp} {s : Shared}
mutual
theorem lN.reads (I : Inv X pins σ H s) {x : V} {d : PyData} {u : Value} : lN X.K H x d → RelV x u → ∃ as, Reads s.heap u d as
 | .non, r => ⟨_, by cases (show u = Value.none from r); exact .none⟩
 | .bl b, r => ⟨_, by cases (show u = Value.bool b from r); exact .bool b⟩
 | .int i, r => by
  obtain ⟨t, rfl⟩ := r
  exact ⟨_, .int i t⟩
 | .str y, r => by
  obtain ⟨t, rfl⟩ := r
  exact ⟨_, .str y t⟩
 | .lst (a := a) h q, r => by
  cases (show u = Value.ref a from r)
  obtain ⟨its, rv, p, _⟩ := I.list h
  obtain ⟨as, ra⟩ := jr.reads I q rv
  obtain ⟨o, n, e, c, _, d⟩ := p
  exact ⟨_, .list e c d (by simpa using ra)⟩
 | .tup (a := a) h q, r => by
  cases (show u = Value.ref a from r)
  obtain ⟨its, rv, p, _⟩ := I.tuple h
  obtain ⟨as, ra⟩ := jr.reads I q rv
  obtain ⟨o, e, c, n, d⟩ := p
  exact ⟨_, .tuple e c d (by simpa using ra)⟩
theorem jr.reads (I : Inv X pins σ H s) {xs : List V} {ds : List PyData} {us : List Value} : jr X.K H xs ds → Vals xs us → ∃ as, ReadsAll s.heap us ds as
 | .nil, r => by
  cases r
  exact ⟨_, .nil⟩
 | .cons h q, r => by
  cases r with
  | cons r1 r2 =>
   obtain ⟨as, ra⟩ := lN.reads I h r1
   obtain ⟨bs, rb⟩ := jr.reads I q r2
   exact ⟨_, .cons ra rb⟩
end
end
def Hu (K : PySem.W.Frag) : R2 := fun x y H Q => ∃ (a b : Addr) (ns ms : List Int), x = .ref a ∧ y = .ref b ∧ SqL K H a (ns.map V.int) ∧ SqL K H b (ms.map V.int) ∧ Q (.bl (decide (ns = ms))) H
def Hl (K : PySem.W.Frag) : R2 := fun x y H Q => ∃ d1 d2 : PyData, lN K H x d1 ∧ lN K H y d2 ∧ SeqAt.shaped d1 = true ∧ SeqAt.shaped d2 = true ∧ Q (.bl (PyData.eqv d1 d2)) H
def Hv (K : PySem.W.Frag) : R2 := fun x y H Q => ∃ (a b : Addr) (ns ms : List Int), x = .ref a ∧ y = .ref b ∧ SqL K H a (ns.map V.int) ∧ SqL K H b (ms.map V.int) ∧ Q (.bl (!decide (ns = ms))) H
def Hj (K : PySem.W.Frag) : R2 := fun x y H Q => ∃ d1 d2 : PyData, lN K H x d1 ∧ lN K H y d2 ∧ SeqAt.shaped d1 = true ∧ SeqAt.shaped d2 = true ∧ Q (.bl (!PyData.eqv d1 d2)) H
section
variable {X : Cx}
theorem BW (hu : X.A.units + 64 < cLine) : OpR X (compareOp .Eq) (fun x y H Q => Hu X.K x y H Q ∨ Hl X.K x y H Q) := by
 intro pins s σ H x y u v Q I rx ry h
 rcases h with ⟨a, b, ns, ms, rfl, rfl, ha, hb, q⟩ | ⟨d1, d2, h1, h2, e1, e2, q⟩
 ·cases (show u = Value.ref a from rx)
  cases (show v = Value.ref b from ry)
  obtain ⟨us, r1, p1, _⟩ := I.list ha
  obtain ⟨ws, r2, p2, _⟩ := I.list hb
  exact PySem.W.ke_eq_ints p1.isList p2.isList (intsAre_of r1) (intsAre_of r2) hu ⟨.bl _, H, I, rfl, q⟩
 ·obtain ⟨as, ra⟩ := h1.reads I rx
  obtain ⟨bs, rb⟩ := h2.reads I ry
  exact eq_dataH ra rb e1 e2 hu ⟨.bl _, H, I, rfl, q⟩
theorem Fy (hu : X.A.units + 64 < cLine) : OpR X (compareOp .NotEq) (fun x y H Q => Hv X.K x y H Q ∨ Hj X.K x y H Q) := by
 intro pins s σ H x y u v Q I rx ry h
 rcases h with ⟨a, b, ns, ms, rfl, rfl, ha, hb, q⟩ | ⟨d1, d2, h1, h2, e1, e2, q⟩
 ·cases (show u = Value.ref a from rx)
  cases (show v = Value.ref b from ry)
  obtain ⟨us, r1, p1, _⟩ := I.list ha
  obtain ⟨ws, r2, p2, _⟩ := I.list hb
  exact PySem.W.ke_ne_ints p1.isList p2.isList (intsAre_of r1) (intsAre_of r2) hu ⟨.bl _, H, I, rfl, q⟩
 ·obtain ⟨as, ra⟩ := h1.reads I rx
  obtain ⟨bs, rb⟩ := h2.reads I ry
  exact ne_dataH ra rb e1 e2 hu ⟨.bl _, H, I, rfl, q⟩
end
end L2
set_option Elab.async false
set_option linter.all false
set_option maxRecDepth 100000
set_option maxHeartbeats 4000000
namespace Tw
open PySem PySem.Spec PyProof.Rows L2
end Tw
namespace Tw
open PySem L2
theorem pD : ∀ ns : List Int, PyData.canLayAll0 (ns.map PyData.int) = true
 | [] => rfl
 | _ :: r => by
  rw [List.map_cons]
  simp only [PyData.canLayAll0, PyData.canLay0, pD r, Bool.and_self]
theorem lu : ∀ ns : List Int, PyData.depthAll (ns.map PyData.int) ≤ 1
 | [] => by simp [PyData.depthAll]
 | _ :: r => by
  have := lu r
  rw [List.map_cons]
  simp only [PyData.depthAll, PyData.depth]
  omega
theorem zx (xs ys : List Int) : SeqAt.shaped (.list [.list (xs.map PyData.int), .list (ys.map PyData.int)]) = true ∧ PyData.eqv (.list [.list (xs.map PyData.int), .list (ys.map PyData.int)]) (.list [.list (xs.map PyData.int), .list (ys.map PyData.int)]) = true := by
 have h1 := lu xs
 have h2 := lu ys
 have hc : (PyData.list [.list (xs.map PyData.int), .list (ys.map PyData.int)]).canLay0 = true := by
  simp only [PyData.canLayAll0, PyData.canLay0, pD, Bool.and_self]
 refine ⟨?_, SeqAt.eqv_refl _ hc⟩
 unfold SeqAt.shaped
 rw [hc, Bool.true_and]
 refine decide_eq_true ?_
 simp only [PyData.depthAll, PyData.depth]
 omega
end Tw
set_option Elab.async false
set_option linter.all false
set_option maxRecDepth 100000
set_option maxHeartbeats 4000000
namespace Tw
open PySem L2
theorem tO {lo : Int} {n : Nat} {cap : L2.St} {tt : TT} {te : TE} {Qf : Addr → Hp → Prop} {H : Hp} (f : Nat → Int) (hl : n < sizeLine)
  (htt : ∀ (z : Int) (H' : Hp) (Q : Bool → Hp → Prop), Q true H' → tt (some (.int z) :: cap) H' Q) (hte : ∀ (i : Nat) (H' : Hp) (Q : VK), i < n → aY H H' → Q (.int (f i)) H' → te (some (.int (lo + i)) :: cap) H' Q)
  (q : ∀ D, H D = none → Qf D (upd H D (.lst (((List.range n).map f).map V.int)))) : qR (Itr lo n) cap tt te Qf H := by
 intro D hD
 refine ⟨fun i m ys H1 => m = n - i ∧ i ≤ n ∧ ys = ((List.range i).map f).map V.int ∧ H1 = upd H D (.lst ys), ⟨_, rfl, Nat.zero_le _, rfl, rfl⟩, ?_⟩
 rintro i m ys H1 ⟨rfl, hi, rfl, rfl⟩
 by_cases hlt : i < n
 ·refine .inr ⟨hlt, fun v H2 y => ?_⟩
  obtain ⟨rfl, rfl⟩ := y
  refine htt _ _ _ ?_
  rw [if_pos rfl]
  refine hte i _ _ hlt (aA hD _) ⟨au, ?_, n - (i + 1), by omega, rfl, hlt, ?_, ?_⟩
  ·rw [List.length_map, List.length_map, List.length_range]
   omega
  ·rw [List.range_succ, List.map_append, List.map_append]
   rfl
  ·rw [yQ]
 ·have e : i = n := by omega
  subst e
  exact .inl ⟨Nat.le_refl _, q D hD⟩
theorem Ge {H : Hp} {a : Addr} {o : HO} (h : H a = some o) : upd H a o = H := funext fun b => by
 by_cases e : b = a
 ·rw [e, au, h]
 ·rw [aH e]
end Tw
namespace Tw
open PySem L2
theorem Ff {c A : Prop} [Decidable c] {D : Ends} {σ : St} {H : Hp} (R : St → Hp → Prop) (hR : R σ H) (h : ∀ σ' H', R σ' H' → D.nx σ' H') (hA : c → (∀ σ' H', R σ' H' → D.nx σ' H') → A) : if c then A else BZ D σ H := by
 by_cases q : c
 ·rw [if_pos q]
  exact hA q h
 ·rw [if_neg q]
  exact h _ _ hR
theorem mV {c A : Prop} [Decidable c] {D : Ends} {σ : St} {H : Hp} (R : St → Hp → Prop) (hR : ¬ c → R σ H) (h : ∀ σ' H', R σ' H' → D.nx σ' H') (hA : c → (∀ σ' H', R σ' H' → D.nx σ' H') → A) : if c then A else BZ D σ H := by
 by_cases q : c
 ·rw [if_pos q]
  exact hA q h
 ·rw [if_neg q]
  exact h _ _ (hR q)
theorem yZ {t : TA} {i : Nat} {k : Int} {xs : List V} {σ : St} {H : Hp} {Q : VK} (ht : ∀ Q' : List V → Hp → Prop, Q' xs H → t σ H Q') (e : σ[i]? = some (some (.int k))) (hk : k ≤ 100000) (hx : xs.length ≤ 2) (h0 : -100000 ≤ k)
  (q : ∀ p H', H p = none → aY H H' → H' p = some (.lst (List.replicate k.toNat xs).flatten) → Q (.ref p) H') : tOp GX (G4 t) (FQ i) σ H Q := by
 refine ht _ ⟨by rw [sizeLine_eq]; omega, fun p hp => ⟨_, e, p, k, xs, rfl, rfl, au, by omega, by omega, ?_, fun r hr => q r _ ((aA hp _).free hr) ((aA hp _).trans (aA hr _)) au⟩⟩
 rw [sizeLine_eq]
 have : k.toNat ≤ 100000 := by omega
 have := Nat.mul_le_mul hx this
 omega
end Tw
namespace L2
open PySem PySem.Spec PyProof.Rows PySem.W
section
variable {X : Cx}
end
end L2
namespace Tw
open PySem L2
end Tw
namespace Tw
open PySem L2
end Tw
set_option Elab.async false
set_option linter.all false
set_option maxRecDepth 100000
set_option maxHeartbeats 4000000
namespace L2
open PySem PySem.Spec PyProof.Rows
theorem bN.ex {P : Program} {w : World} {H : Hp} {h : Heap} {a : Addr} {o : HO} (x : bN P w H h a o) : ∃ ob, h.get? a = some ob := by
 induction o with
 | lst xs => obtain ⟨z, its, n, r, e⟩ := x; exact ⟨_, e⟩
 | tup xs => obtain ⟨z, its, r, ob, e, c⟩ := x; exact ⟨_, e⟩
 | dK kvs => obtain ⟨z, y, vs, r, ob, es, ep, e, c⟩ := x; exact ⟨_, e⟩
 | dT kvs => obtain ⟨z, y, xs, r, ob, es, ep, e, c⟩ := x; exact ⟨_, e⟩
 | set S n => obtain ⟨ob, es, ep, t, e, c⟩ := x; exact ⟨_, e⟩
 | ins C dx fs => obtain ⟨d, z, ne, e, _⟩ := x; exact ⟨_, e⟩
 | own y => exact x
 | xd fs => obtain ⟨mA, ⟨od, es, ep, e, c⟩, r⟩ := x; exact ⟨_, e⟩
 | rng lo hi => obtain ⟨t, u, v, e⟩ := x; exact ⟨_, e⟩
 | frz ob u ih => exact ⟨_, x.1⟩
 | tbl ps => exact ⟨_, x⟩
 | met f y => exact ⟨_, x⟩
 | ext φ => exact x.2.1
structure Cov (B : Heap) (fs : List Addr) (H H' : Hp) (h : Heap) : Prop where
 old : ∀ b o, h.get? b = some o → b ∉ fs → ∃ o', B.get? b = some o' ∧ (H b = none → o' = o)
 trk : ∀ b u, H' b = some u → ∃ o, B.get? b = some o
def CX1 (P : Program) (w : World) : CXT := fun outer H s E e s' => ∃ (ea C t : Addr) (B : Heap) (H' : Hp), e = .ref ea ∧ s'.os = s.os ∧ AllBare s'.gens ∧ Un (frs outer) [] H H' s.heap s'.heap ∧ HOk P w H' s'.heap ∧
  Heap.FlyingW B outer ea (.ref C) (.ref t) s'.heap ∧ Cov B (frs outer) H H' s.heap ∧ E (.ref C) none H'
section
variable {P : Program} {w : World} {K : PySem.W.Frag} {mg : Str → Option Value} {base : Heap} {N : List Str} {qual : Str} {scope : Scope} {f : Addr} {cd : Value} {A : Around} {outer : List Env} {s0 : Shared} {H0 : Hp} {E : XK}
abbrev X1 (P : Program) (w : World) (K : PySem.W.Frag) (mg : Str → Option Value) (base : Heap) (N : List Str) (qual : Str) (scope : Scope) (f : Addr) (cd : Value) (A : Around) (outer : List Env) (s0 : Shared) (H0 : Hp) (E : XK) : Cx :=
 fO (CX1 P w) P w K mg base N qual scope f cd A outer s0 H0 E
theorem young {b : Addr} {o : Obj} (q : s0.heap.get? b = some o) (hb : b ∉ frs outer) : b ∉ frs (envOfC qual scope s0.heap.objs.size f cd :: outer) := fun z => by
 have z' : b ∈ s0.heap.objs.size :: frs outer := z
 rcases List.mem_cons.mp z' with e | e
 ·exact absurd (Heap.lt_size q) (by rw [e]; exact Nat.lt_irrefl _)
 ·exact hb e
theorem raised {pins : List (Addr × Obj)} {σ : St} {H : Hp} {s : Shared} {h1 : Heap} {ea C : Addr} {vs : List Value} (I : Inv (X1 P w K mg base N qual scope f cd A outer s0 H0 E) pins σ H s) (m : Heap.MadeExcOf s.heap h1 ea (.ref C) vs) (q : E (.ref C) none H) :
  (X1 P w K mg base N qual scope f cd A outer s0 H0 E).xe (.ref ea) { s with heap := h1 } := by
 have stk : s.heap.FunFrames base (envOfC qual scope s0.heap.objs.size f cd :: outer) := I.stack
 have hin : ∀ env ∈ (envOfC qual scope s0.heap.objs.size f cd :: outer), ∀ b, env.frame = some b → b ∈ frs (envOfC qual scope s0.heap.objs.size f cd :: outer) := fun env he b hb => List.mem_filterMap.mpr ⟨env, he, hb⟩
 have U : Un (frs outer) [] H0 H s0.heap s.heap := I.base
 have nofr : ∀ b u, H b = some u → b ∉ frs (envOfC qual scope s0.heap.objs.size f cd :: outer) := fun b u e z => by
  have := I.stkFree b z
  rw [this] at e
  cases e
 have inB : ∀ b o, s.heap.get? b = some o → b ∉ frs (envOfC qual scope s0.heap.objs.size f cd :: outer) → (PySem.W.hideAll s.heap (frs (envOfC qual scope s0.heap.objs.size f cd :: outer))).get? b = some o := fun b o e n => PySem.W.hideAll_get _ e n
 show wpAny _ _ (leaving _ _) _ _ _
 refine wpAny_leaves_madeW (base := PySem.W.hideAll s.heap (frs (envOfC qual scope s0.heap.objs.size f cd :: outer))) I.ok.frames rfl (fun b o e => PySem.W.of_hideAll _ e) (PySem.W.funFrames_hide stk hin) m fun h2 t x1 x2 x3 x4 => ?_
 have kept := x1.1
 have fr : ∀ b o, s.heap.get? b = some o → b ∈ frs outer → ∃ sl, h2.get? b = some { o with slots := sl } := fun b o e hb => by
  obtain ⟨_, o', ho', nf⟩ := stk.mem (b := b) (List.mem_cons_of_mem _ hb)
  rw [e] at ho'
  cases ho'
  exact x4 b o (m.keeps _ _ e) nf
 refine ⟨ea, C, t, _, H, rfl, I.os, I.bare, ⟨fun b o e n hb hx => ?_, fun b o e n hb hx => ?_, U.free, fun b o e hx => ?_, U.tups, U.frzs, U.tbls⟩, fun b u e => ?_, x1, ⟨fun b o e hb => ?_, fun b u e => ?_⟩, q⟩
 ·exact kept b o (inB b o (U.keep b o e n hb hx) (young e hb))
 ·obtain ⟨sl, e1⟩ := U.slot b o e n hb hx
  obtain ⟨sl', e2⟩ := fr b _ e1 hb
  exact ⟨sl', e2⟩
 ·obtain ⟨o1, e1⟩ := U.there b o e hx
  by_cases hb : b ∈ frs outer
  ·obtain ⟨sl, e2⟩ := fr b _ e1 hb
   exact ⟨_, e2⟩
  ·exact ⟨o1, kept b o1 (inB b o1 e1 (young e hb))⟩
 ·refine (I.hok b u e).stay (fun c o hc e1 => kept c o (inB c o e1 ?_)) (fun _ r => r) fun _ _ r => r
  rcases hc with rfl | hc
  ·exact nofr _ _ e
  ·exact nofr _ _ hc
 ·obtain ⟨o1, e1⟩ := U.there b o e (by simp)
  refine ⟨o1, inB b o1 e1 (young e hb), fun n => ?_⟩
  have := U.keep b o e n hb (by simp)
  rw [e1] at this
  exact Option.some.inj this
 ·obtain ⟨o, e1⟩ := (I.hok b u e).ex
  exact ⟨o, inB b o e1 (nofr b u e)⟩
theorem gO : oJ (CX1 P w) (X1 P w K mg base N qual scope f cd A outer s0 H0 E) E := by
 intro pins σ H s e s' I h
 obtain ⟨ea, C, t, B, H', rfl, os, bare, un, hok, fl, cov, q⟩ := h
 have U : Un (frs outer) [] H0 H s0.heap s.heap := I.base
 show wpAny _ _ (leaving _ _) _ _ _
 refine wpAny_leaves_onW (base := B) I.ok.frames rfl fl fun h2 x1 x2 => ?_
 have kept := x1.1
 have fr : ∀ b o, s'.heap.get? b = some o → b ∈ frs outer → ∃ sl, h2.get? b = some { o with slots := sl } := fun b o e hb => by
  obtain ⟨_, o', ho', nf⟩ := fl.2.2.1.mem (b := b) (List.mem_cons_of_mem _ hb)
  rw [e] at ho'
  cases ho'
  exact x2 b o e nf
 refine ⟨ea, C, t, B, H', rfl, os.trans I.os, bare, ⟨fun b o e n hb hx => ?_, fun b o e n hb hx => ?_, fun b o e n hx => ?_, fun b o e hx => ?_, fun b xs e => un.tups b xs (U.tups b xs e), fun b o u e => un.frzs b o u (U.frzs b o u e), fun b ps e => ?_⟩, fun b u e => ?_, x1, ⟨fun b o e hb => ?_, cov.trk⟩, q⟩
 ·obtain ⟨o', e2, z⟩ := cov.old b o (U.keep b o e n hb hx) (young e hb)
  rw [z (U.free b o e n hx)] at e2
  exact kept b o e2
 ·obtain ⟨sl, e1⟩ := U.slot b o e n hb hx
  obtain ⟨sl', e2⟩ := un.slot b _ e1 (U.free b o e n hx) (List.mem_cons_of_mem _ hb) hx
  obtain ⟨sl2, e3⟩ := fr b _ e2 hb
  exact ⟨sl2, e3⟩
 ·obtain ⟨o1, e1⟩ := U.there b o e hx
  exact un.free b o1 e1 (U.free b o e n hx) hx
 ·obtain ⟨o1, e1⟩ := U.there b o e hx
  by_cases hb : b ∈ frs outer
  ·obtain ⟨o2, e2⟩ := un.there b o1 e1 hx
   obtain ⟨sl, e3⟩ := fr b _ e2 hb
   exact ⟨_, e3⟩
  ·obtain ⟨o', e2, _⟩ := cov.old b o1 e1 (young e hb)
   exact ⟨o', kept b o' e2⟩
 ·obtain ⟨m1, e1⟩ := U.tbls b ps e
  obtain ⟨m2, e2⟩ := un.tbls b _ e1
  exact ⟨m1 ++ m2, by rw [e2, Array.append_assoc]⟩
 ·refine (hok b u e).stay (fun c o hc e1 => ?_) (fun _ r => r) fun _ _ r => r
  have ht : ∃ o, B.get? c = some o := by
   rcases hc with rfl | hc
   ·exact cov.trk _ _ e
   ·exact cov.trk _ _ hc
  obtain ⟨o1, e2⟩ := ht
  have := fl.1 c o1 e2
  rw [e1] at this
  cases this
  exact kept c o e2
 ·obtain ⟨o1, e1⟩ := U.there b o e (by simp)
  obtain ⟨o', e2, z⟩ := cov.old b o1 e1 (young e hb)
  refine ⟨o', e2, fun n => ?_⟩
  have := U.keep b o e n hb (by simp)
  rw [e1] at this
  rw [z (U.free b o e n (by simp))]
  exact Option.some.inj this
end
section
variable {P : Program} {w : World} {K : PySem.W.Frag} {mg : Str → Option Value} {base : Heap}
theorem Fun.ok1 {x qual : Str} {st : Stmt} {f : Addr} {fd : FuncData} {N ps : List Str} {k : Nat} {sp : Sp} (F : Fun K x qual st f fd) (S : aC N ps (defScope st)) (len : ∀ vs H Q E, sp vs H Q E → vs.length = ps.length)
  (hbody : ∀ (cdv : Value) (A : Around) (outer : List Env) (s : Shared) (H : Hp) (vs : List V) (Q : VK) (E : XK), dF k (A.deeper (envOfC qual (defScope st) s.heap.objs.size f cdv)) → sp vs H Q E →
   ∃ t, PSs (X1 P w K mg base N qual (defScope st) f cdv A outer s H E) (defBody st) t ∧ t { nx := fun _ H' => Q .non H', rt := Q } (start N vs) H) : bj P w K mg base (CX1 P w) (k + 1) f fd ps sp := by
 obtain ⟨oc, od, kV, doc, pm, an, cdv, ct, osl, rfl, lk, hcd⟩ := F.ex
 exact Ef lk hcd S len fun A outer s H vs Q E hr hsp => hbody cdv A outer s H vs Q E hr hsp
end
abbrev bmV : List Value := [.type "ValueError", .type "Exception", .type "BaseException", .type "object"]
structure Exc (K : PySem.W.Frag) (mg : Str → Option Value) (x : Str) (C : Addr) : Prop where
 m : mg x = some (.ref C)
 q : PySem.W.excIn K C bmV "ValueError.__new__" = true
theorem DK {K : PySem.W.Frag} {h : Heap} {C : Addr} (X : K.In h) (q : PySem.W.excIn K C bmV "ValueError.__new__" = true) :
  ∃ bm N nm qn bs hdct sn sub ab col dd k0 k1 k2 k3 k5 mN, h.get? C = some (excClassObj nm qn C N bs bm hdct sn sub ab col dd k0 k1 k2 k3 k5 "ValueError.__new__") ∧ h.Ns N mN ∧ mN "__init__" = none ∧ OwnTail h bmV bm := by
 unfold PySem.W.excIn at q
 split at q
 ·rename_i dd cd sl ho
  split at q
  ·rename_i C' bm k0 k1 k2 k3 n k5 hm hs
   simp only [Bool.and_eq_true, beq_iff_eq, Bool.not_eq_true'] at q
   obtain ⟨⟨⟨⟨⟨rfl, rfl⟩, hdel⟩, ht⟩, hok⟩, hni⟩ := q
   obtain ⟨nm, bs, mro, ns, qn, hd, sn, sub, ab, col, del⟩ := cd
   dsimp only at hm hdel hok hni
   subst hm hdel
   have hsl : sl = #[k0, k1, k2, k3, some (.builtin "ValueError.__new__"), k5] := by
    obtain ⟨l⟩ := sl
    simp only at hs
    rw [hs]
   subst hsl
   exact ⟨bm, ns, nm, qn, bs, hd, sn, sub, ab, col, dd, k0, k1, k2, k3, k5, _, X _ _ ho, .of_isNs (PySem.W.isNs_of_in X hok), PySem.W.nsMap_none_of_in X hok hni, PySem.W.tail_of_in X ht⟩
  ·cases q
 ·cases q
section
variable {P : Program} {w : World} {K : PySem.W.Frag} {mg : Str → Option Value} {base : Heap} {N : List Str} {qual : Str} {scope : Scope} {f : Addr} {cd : Value} {A : Around} {outer : List Env} {s0 : Shared} {H0 : Hp} {E : XK}
def Ft (C : Addr) (E : XK) (ta : TA) : TS := fun _ σ H => ta σ H fun vs H1 => vs.length ≤ sizeLine ∧ E (.ref C) none H1
theorem Bw {x : Str} {C : Addr} {a : Expr} {ta : TA} {np cpos pos : Pos} (e : Exc K mg x C) (hg : Gl (X1 P w K mg base N qual scope f cd A outer s0 H0 E) x) (ha : PA (X1 P w K mg base N qual scope f cd A outer s0 H0 E) [a] ta)
  (hdb : (x == ("__debug__" : Str)) = false := by decide)
  (he : starEach [a] (X1 P w K mg base N qual scope f cd A outer s0 H0 E).env = [(false, eval a (X1 P w K mg base N qual scope f cd A outer s0 H0 E).env)] := by rfl) :
  PS (X1 P w K mg base N qual scope f cd A outer s0 H0 E) (.Raise (some (.Call (.Name x np) [a] [] cpos)) none pos) (Ft C E ta) := by
 intro pins s σ H D I h
 obtain ⟨bm, N', nm, qn, bs, hdct, sn, sub, ab, col, dd, k0, k1, k2, k3, k5, mN, hC, hN, hni, T⟩ := DK I.mod.kin e.q
 refine wpAny_Raise_call_subU (C := C) (nm := nm) (q := qn) (N := N') (bs := bs) (bm := bm) (hdct := hdct) (sn := sn) (sub := sub) (ab := ab) (col := col) (dd := dd) (k0 := k0) (k1 := k1) (k2 := k2) (k3 := k3) (k5 := k5)
  PySem.F.excBase_ValueError PySem.F.excBase_ValueError.hasB PySem.F.excBase_ValueError (mN := mN) (T.hasType PySem.F.excBase_ValueError.hasBase) (I.ok.hd rfl) (by rw [he]; rfl) hni (uZ I hg e.m ⟨rfl, ?_⟩ hdb)
 have h2 := ha cpos pins s σ H _ I h
 rw [he] at h2 ⊢
 refine Calls.evalArgs_plain (thn h2 fun us s2 ⟨vs, H2, I2, r2, q1, q2⟩ => ⟨rfl, ?_, I2.bk _ _ hC, hN.keeps I2.bk, T.keeps I2.bk, fun h' ea m => raised I2 m q2⟩)
 rw [← r2.length]
 exact q1
end
structure Hf (K : PySem.W.Frag) (C : Addr) : Prop where
 dct : PySem.W.hasDictIn K C = true
 ga : PySem.W.findIn K (.ref C) "__getattribute__" = some (some (.builtin "BaseException.__getattribute__"))
 nga : PySem.W.findIn K (.ref C) "__getattr__" = some none
 cl : PySem.W.findIn K (.ref C) "__class__" = some (some (.builtin "object.__class__"))
 gt : PySem.W.specialIn K (.builtin "object.__class__") "__get__" = some (some (.builtin "getset_descriptor.__get__"))
 tk : PySem.W.takesIn K (.builtin "object.__class__") = some true
 mo : PySem.W.mroIn K C (.type "object") = some true
 mb : PySem.W.mroIn K C (.type "BaseException") = some true
section
variable {X : Cx} {pins : List (Addr × Obj)} {σ : St} {H : Hp} {s : Shared} {ea : Addr}
end
section
variable {K : PySem.W.Frag} {x C : Addr}
end
end L2
namespace L2
open PySem PySem.Spec PyProof.Rows PySem.W Builtin Builtin.ObjectAttr Builtin.Getset_descriptor
section
variable {K : PySem.W.Frag} {x C : Addr}
variable {prog : Program} {w : World} {A : Around} {E : Value → Shared → Prop} {s : Shared} {R : Result → Shared → Prop}
end
section
variable {X : Cx}
end
theorem j5 {P : Program} {w : World} {X : Cx} : oJ (CX1 P w) X (fun _ _ _ => False) := fun _ _ _ _ _ _ _ h => by
 obtain ⟨_, _, _, _, _, _, _, _, _, _, _, _, z⟩ := h
 exact z.elim
end L2
set_option Elab.async false
set_option linter.all false
set_option maxRecDepth 100000
set_option maxHeartbeats 4000000
namespace L2
open PySem PySem.Spec PyProof.Rows PySem.W
section
variable {X : Cx} {pins pins' : List (Addr × Obj)} {E : XK} {σ : St} {H : Hp} {s : Shared}
end
end L2
namespace L2
open PySem PySem.Spec PyProof.Rows PySem.W
def Di (r r' r'' : R2) (ta tb tc td : TE) : TE := fun σ H Q => ta σ H fun x H1 => tb σ H1 fun y H2 => r x y H2 fun z H3 => ∃ k, z = .bl k ∧
 (if k = true then tc σ H3 fun w' H4 => r' y w' H4 fun z2 H5 => ∃ k2, z2 = .bl k2 ∧ (if k2 = true then td σ H5 fun w2 H6 => r'' w' w2 H6 Q else Q (.bl false) H5) else Q (.bl false) H3)
theorem tV {X : Cx} {a b c d : Expr} {ta tb tc td : TE} {pos : Pos} {op op' op'' : CmpOp} {r r' r'' : R2} (ho : OpR X (compareOp op) r) (ho' : OpR X (compareOp op') r') (ho'' : OpR X (compareOp op'') r'') (ha : PE X a ta) (hb : PE X b tb) (hc : PE X c tc) (hd : PE X d td)
  (hm : lastMarks [op, op', op''] [b, c, d] = false := by with_unfolding_all rfl) : PT X (.Compare a [op, op', op''] [b, c, d] pos) (BX (Di r r' r'' ta tb tc td)) := by
 intro pins s σ H Q I h
 refine isTrue_chain (thn (ha pins s σ H _ I h) fun v s1 ⟨x, H1, I1, r1, q1⟩ => test_link (thn (hb pins s1 σ H1 _ I1 q1) fun u s2 ⟨y, H2, I2, r2, q2⟩ =>
  thn (ho pins s2 σ H2 x y v u _ I2 r1 r2 q2) fun d s3 ⟨z, H3, I3, r3, k, e, q3⟩ => ?_)) hm
 subst e
 cases r3
 refine wpAny_truthy_bool ?_
 cases k with
 | false =>
  obtain ⟨k', e', q'⟩ := q3
  cases e'
  exact ite_ff ⟨H3, I3, q'⟩
 | true =>
  refine ite_tt (test_link (thn (hc pins s3 σ H3 _ I3 q3) fun w' s4 ⟨z', H4, I4, r4, q4⟩ => thn (ho' pins s4 σ H4 y z' u w' _ I4 r2 r4 q4) fun d' s5 ⟨z2, H5, I5, r5, k2, e2, q5⟩ => ?_))
  subst e2
  cases r5
  refine wpAny_truthy_bool ?_
  cases k2 with
  | false =>
   obtain ⟨k', e', q'⟩ := q5
   cases e'
   exact ite_ff ⟨H5, I5, q'⟩
  | true =>
   refine ite_tt (test_last (thn (hd pins s5 σ H5 _ I5 q5) fun w2 s6 ⟨z3, H6, I6, r6, q6⟩ => thn (ho'' pins s6 σ H6 z' z3 w' w2 _ I6 r4 r6 q6) fun d2 s7 ⟨z4, H7, I7, r7, k3, e3, q7⟩ => ?_))
   subst e3
   cases r7
   exact wpAny_truthy_bool ⟨H7, I7, q7⟩
end L2
set_option Elab.async false
set_option linter.all false
set_option maxRecDepth 100000
set_option maxHeartbeats 4000000
namespace L2
open PySem PySem.Spec PyProof.Rows
section
variable {X : Cx}
theorem sG (hc : X.calm = true) : gP X (.type "set") (fun xs H Q => ∃ (p : Addr) (ns : List Int), xs = [.ref p] ∧ SqL X.K H p (ns.map V.int) ∧ ns.length + 1 < scanBound ∧
  ∀ l S n, H l = none → n ≤ ns.length → Q (.ref l) (upd H l (.set S n))) := by
 intro pins s σ H xs us Q I r h
 obtain ⟨p, ns, rfl, hq, hb, q⟩ := h
 obtain ⟨u, rfl, rx⟩ := vals1 r
 cases rx
 obtain ⟨its, r', pl, hz⟩ := I.list hq
 have hi := intsAre_of r'
 have hlen := hi.length
 refine call_set_list (ns := ns) (I.ok.hd hc) pl.isList (by simpa using hi) (by simp; omega) fun h' tk hS hk => ?_
 have kp : ∀ b o, s.heap.get? b = some o → h'.get? b = some o := fun b o e => hk b o (Heap.lt_size e) e
 have hl : (firstMet (fun i => ns.getD i 0) its.toArray.size).length ≤ ns.length := by
  have := firstMet_length_le (fun i => ns.getD i 0) its.toArray.size
  simp at this ⊢
  omega
 exact ⟨.ref s.heap.objs.size, _, I.laid (t' := tk) kp (Nat.le_refl _) (show bN X.prog X.w _ h' _ (.set _ _) from hS), rfl, q _ _ _ (I.hok.fresh (Nat.le_refl _)) hl⟩
theorem rP : gP X (.builtin "len") (fun xs H Q => ∃ (p : Addr) (S : Int → Bool) (n : Nat), xs = [.ref p] ∧ H p = some (.set S n) ∧ n < 2 ^ 62 ∧ Q (.int (n : Int)) H) := by
 intro pins s σ H xs us Q I r h
 obtain ⟨p, S, n, rfl, hp, hn, q⟩ := h
 obtain ⟨u, rfl, rx⟩ := vals1 r
 cases rx
 have hS : s.heap.SetOf (intKind X.prog X.w) p S n := I.hok p _ hp
 obtain ⟨o, es, ep, t, ho, hex, hd, hel, hmem, hb, hf, hns⟩ := hS
 refine call_len_set ho hex hd hf (by omega) ?_
 exact ⟨.int (n : Int), H, I.tok (s.toks + 1 + 1), ⟨_, by rw [← hns]⟩, q⟩
end
end L2
set_option Elab.async false
set_option linter.all false
set_option maxRecDepth 100000
set_option maxHeartbeats 4000000
namespace L2
open PySem PySem.Spec PyProof.Rows PySem.W
def aO (a : Addr) (o : Obj) : HO := .ext fun h => h.get? a = some o
theorem dJ {P : Program} {w : World} {H : Hp} {h : Heap} {a : Addr} {o : Obj} (e : h.get? a = some o) : bN P w H h a (aO a o) := ⟨e, ⟨o, e⟩, fun _ _ p k => k o p⟩
theorem cP {P : Program} {w : World} {H : Hp} {h : Heap} {a : Addr} {o : Obj} (hok : HOk P w H h) (e : H a = some (aO a o)) : h.get? a = some o := (hok a _ e).1
def hide (H : Hp) (cs : List Addr) : Hp := fun b => if b ∈ cs then none else H b
def over (H : Hp) (cs : List Addr) (H' : Hp) : Hp := fun b => if b ∈ cs then H b else H' b
theorem mF {H : Hp} {cs : List Addr} {b : Addr} (h : b ∈ cs) : hide H cs b = none := if_pos h
theorem bR {H : Hp} {cs : List Addr} {b : Addr} (h : b ∉ cs) : hide H cs b = H b := if_neg h
theorem pU {H H' : Hp} {cs : List Addr} {b : Addr} (h : b ∈ cs) : over H cs H' b = H b := if_pos h
theorem dq {H H' : Hp} {cs : List Addr} {b : Addr} (h : b ∉ cs) : over H cs H' b = H' b := if_neg h
theorem sU (H : Hp) (cs : List Addr) : over H cs (hide H cs) = H := by
 funext b
 by_cases h : b ∈ cs
 ·rw [pU h]
 ·rw [dq h, bR h]
theorem Be {H H' : Hp} {cs : List Addr} {a : Addr} {o : HO} (h : a ∉ cs) : over H cs (upd H' a o) = upd (over H cs H') a o := by
 funext b
 by_cases hb : b ∈ cs
 ·have : b ≠ a := fun e => h (e ▸ hb)
  rw [pU hb, aH this, pU hb]
 ·rw [dq hb]
  by_cases e : b = a
  ·subst e
   rw [au, au]
  ·rw [aH e, aH e, dq hb]
section
variable {P : Program} {w : World} {H H' : Hp} {h h' : Heap} {cs : List Addr}
theorem yV (hok : HOk P w H h) (hx : ∀ a ∈ cs, ∃ o, H a = some (aO a o)) : HOk P w (hide H cs) h := fun b u e => by
 have hb : b ∉ cs := fun z => by rw [mF z] at e; cases e
 rw [bR hb] at e
 refine (hok b u e).stay (fun _ _ _ q => q) (fun c q => ?_) fun c xs q => ?_
 ·rw [bR]
  ·exact q
  ·intro z
   obtain ⟨o, e2⟩ := hx c z
   rw [q] at e2
   cases e2
 ·rw [bR]
  ·exact q
  ·intro z
   obtain ⟨o, e2⟩ := hx c z
   rw [q] at e2
   cases e2
theorem yU {fs : List Addr} (hok : HOk P w H h) (hok' : HOk P w H' h') (hx : ∀ a ∈ cs, ∃ o, H a = some (aO a o)) (hf : ∀ b ∈ fs, H b = none) (u : Un fs [] (hide H cs) H' h h') :
  HOk P w (over H cs H') h' ∧ Un fs [] H (over H cs H') h h' := by
 have get : ∀ a ∈ cs, ∃ o, H a = some (aO a o) ∧ h.get? a = some o := fun a ha => by
  obtain ⟨o, e⟩ := hx a ha
  exact ⟨o, e, cP hok e⟩
 have gone : ∀ a ∈ cs, H' a = none := fun a ha => by
  obtain ⟨o, _, e⟩ := get a ha
  exact u.free a o e (mF ha) (by simp)
 have out : ∀ b, H b = none → b ∉ cs := fun b n z => by
  obtain ⟨o, e, _⟩ := get b z
  rw [n] at e
  cases e
 refine ⟨fun b v e => ?_, fun b o e n hb hx' => ?_, fun b o e n hb hx' => ?_, fun b o e n hx' => ?_, fun b o e hx' => u.there b o e hx', fun b xs e => ?_, fun b o v e => ?_, fun b ps e => ?_⟩
 ·by_cases hb : b ∈ cs
  ·obtain ⟨o, e1, e2⟩ := get b hb
   rw [pU hb, e1] at e
   cases e
   exact dJ (u.keep b o e2 (mF hb) (fun z => by rw [hf b z] at e1; cases e1) (by simp))
  ·rw [dq hb] at e
   refine (hok' b v e).stay (fun _ _ _ q => q) (fun c q => ?_) fun c xs q => ?_
   ·rw [dq]
    ·exact q
    ·intro z
     rw [gone c z] at q
     cases q
   ·rw [dq]
    ·exact q
    ·intro z
     rw [gone c z] at q
     cases q
 ·exact u.keep b o e (by rw [bR (out b n)]; exact n) hb hx'
 ·exact u.slot b o e (by rw [bR (out b n)]; exact n) hb hx'
 ·rw [dq (out b n)]
  exact u.free b o e (by rw [bR (out b n)]; exact n) hx'
 ·have hb : b ∉ cs := fun z => by
   obtain ⟨o, e1⟩ := hx b z
   rw [e] at e1
   cases e1
  rw [dq hb]
  exact u.tups b xs (by rw [bR hb]; exact e)
 ·have hb : b ∉ cs := fun z => by
   obtain ⟨o, e1⟩ := hx b z
   rw [e] at e1
   cases e1
  rw [dq hb]
  exact u.frzs b o v (by rw [bR hb]; exact e)
 ·have hb : b ∉ cs := fun z => by
   obtain ⟨o, e1⟩ := hx b z
   rw [e] at e1
   cases e1
  rw [dq hb]
  exact u.tbls b ps (by rw [bR hb]; exact e)
end
structure qW where
 name : Str
 qual : Str
 params : Arguments
 body : List Stmt
 scope : Scope
 ps : List Str
 xs : List Str
structure jj (H : Hp) (f : Addr) (c : qW) (cs : List Addr) (fvs : List V) : Prop where
 ex : ∃ (cd : Addr) (doc pm ctv : Value) (oc : Obj) (vs : Array Value) (t : Tok), H f = some (aO f (fnMade c.name c.qual c.params c.body c.scope (c.xs.zip cs) doc pm cd ctv)) ∧ H cd = some (aO cd oc) ∧ oc.data = .fields vs ∧ vs[1]? = some (.str c.qual t)
 cells : ∀ (i : Nat) (a : Addr), cs[i]? = some a → ∃ (co : Obj) (v : V) (u : Value), fvs[i]? = some v ∧ H a = some (aO a co) ∧ co.data = .cell (some u) ∧ RelV v u
 nd : cs.Nodup
 len : cs.length = c.xs.length
 lenV : fvs.length = c.xs.length
theorem jj.same {H H' : Hp} {f : Addr} {c : qW} {cs : List Addr} {fvs : List V} (h : jj H f c cs fvs) (s : ∀ b o, H b = some (aO b o) → H' b = some (aO b o)) : jj H' f c cs fvs := by
 obtain ⟨⟨cd, doc, pm, ctv, oc, vs, t, h1, h2, h3, h4⟩, hc, nd, len, lenV⟩ := h
 refine ⟨⟨cd, doc, pm, ctv, oc, vs, t, s _ _ h1, s _ _ h2, h3, h4⟩, fun i a e => ?_, nd, len, lenV⟩
 obtain ⟨co, v, u, e1, e2, e3⟩ := hc i a e
 exact ⟨co, v, u, e1, s _ _ e2, e3⟩
structure rH (N : List Str) (c : qW) : Prop where
 kind : c.scope.kind = .function
 co : c.scope.isCoroutine = false
 gen : c.scope.isGenerator = false
 nocell : ∀ x ∈ c.scope.names, x.2 ≠ .cell
 pre : N.take (c.ps.length + c.xs.length) = c.ps ++ c.xs
 nd : N.Nodup
 par : ∀ n ∈ c.ps, c.scope.names.lookup n = some .local
 fr : ∀ x ∈ c.scope.names, x.2 = .free → x.1 ∈ c.xs
 frn : ∀ n ∈ c.xs, c.scope.names.lookup n ≠ some .local
def pB (P : Program) (w : World) (K : PySem.W.Frag) (mg : Str → Option Value) (base : Heap) (N : List Str) (qual : Str) (scope : Scope) (f : Addr) (cd : Value) (cl : List (Str × Addr)) (A : Around) (outer : List Env) (s : Shared) (H : Hp) : Cx where
 prog := P
 w := w
 K := K
 mg := mg
 base := base
 A := A.deeper (envX qual scope s.heap.objs.size f cd cl)
 N := N
 s₀ := s
 H₀ := H
 env := envX qual scope s.heap.objs.size f cd cl
 outer := outer
 stack := envX qual scope s.heap.objs.size f cd cl :: outer
 ex := []
 calm := true
 fn := fun _ => false
 pn := []
 xe := fun _ _ => False
theorem cM : ∀ {xs : List Str} {cs : List Addr} {x : Str} {c : Addr}, (xs.zip cs).lookup x = some c → ∃ i : Nat, xs[i]? = some x ∧ cs[i]? = some c
 | [], _, _, _, h => by simp at h
 | _ :: _, [], _, _, h => by simp at h
 | y :: xs, d :: cs, x, c, h => by
  rw [List.zip_cons_cons, List.lookup_cons] at h
  cases hb : x == y with
  | true =>
   rw [hb] at h
   cases h
   exact ⟨0, by rw [eq_of_beq hb]; rfl, rfl⟩
  | false =>
   rw [hb] at h
   obtain ⟨i, h1, h2⟩ := cM h
   exact ⟨i + 1, h1, h2⟩
theorem uV : ∀ {xs : List Str} {cs : List Addr} {x : Str}, cs.length = xs.length → x ∈ xs → ∃ c, (xs.zip cs).lookup x = some c
 | [], _, _, _, h => by simp at h
 | _ :: _, [], _, l, _ => by simp at l
 | y :: xs, d :: cs, x, l, h => by
  rw [List.zip_cons_cons, List.lookup_cons]
  cases hb : x == y with
  | true => exact ⟨d, rfl⟩
  | false =>
   rcases List.mem_cons.mp h with e | e
   ·rw [e] at hb
    simp at hb
   ·exact uV (by simpa using l) e
theorem xN : ∀ {xs : List Str} {cs : List Addr} {i : Nat} {x : Str} {c : Addr}, xs.Nodup → xs[i]? = some x → cs[i]? = some c → (xs.zip cs).lookup x = some c
 | [], _, _, _, _, _, h, _ => by simp at h
 | _ :: _, [], _, _, _, _, _, h => by simp at h
 | y :: xs, d :: cs, 0, x, c, _, h1, h2 => by
  simp at h1 h2
  subst h1 h2
  simp
 | y :: xs, d :: cs, i + 1, x, c, nd, h1, h2 => by
  have h1' : xs[i]? = some x := by simpa using h1
  have hne : (x == y) = false := by
   cases hb : x == y with
   | false => rfl
   | true =>
    rw [eq_of_beq hb] at h1'
    exact absurd (List.mem_of_getElem? h1') (List.nodup_cons.mp nd).1
  rw [List.zip_cons_cons, List.lookup_cons, hne]
  exact xN (List.nodup_cons.mp nd).2 h1' (by simpa using h2)
theorem lookup_mem : ∀ {l : List (Str × Value)} {y : Str} {u : Value}, (l.map (·.1)).Nodup → (y, u) ∈ l → l.lookup y = some u
 | [], _, _, _, h => by simp at h
 | (z, v) :: l, y, u, nd, h => by
  rw [List.map_cons] at nd
  rw [List.lookup_cons]
  rcases List.mem_cons.mp h with e | e
  ·cases e
   simp
  ·cases hb : y == z with
   | true =>
    rw [eq_of_beq hb] at e
    exact absurd (List.mem_map.mpr ⟨_, e, rfl⟩) (List.nodup_cons.mp nd).1
   | false => exact lookup_mem (List.nodup_cons.mp nd).2 e
theorem o8 : ∀ (ps : List Str) (us : List Value), ((ps.zip us).map (·.1)).Sublist ps
 | [], _ => by simp
 | _ :: _, [] => by simp
 | p :: ps, u :: us => by
  rw [List.zip_cons_cons, List.map_cons]
  exact (o8 ps us).cons₂ _
theorem zj {ps : List Str} {us : List Value} {i : Nat} {y : Str} {u : Value} (nd : ps.Nodup) (h1 : ps[i]? = some y) (h2 : us[i]? = some u) : (ps.zip us).reverse.lookup y = some u := by
 refine lookup_mem ?_ ?_
 ·rw [List.map_reverse]
  refine List.pairwise_reverse.mpr (List.Pairwise.imp (fun h => Ne.symm h) (show ((ps.zip us).map (·.1)).Nodup from nd.sublist (o8 ps us)))
 ·rw [List.mem_reverse]
  exact List.mem_of_getElem? (i := i) (by rw [List.getElem?_zip_eq_some]; exact ⟨h1, h2⟩)
section
variable {P : Program} {w : World} {K : PySem.W.Frag} {mg : Str → Option Value} {base : Heap} {A : Around} {outer : List Env} {s : Shared} {H : Hp} {f : Addr} {c : qW} {cs : List Addr} {fvs vs : List V} {us : List Value} {N : List Str} {k : Nat} {Q : VK} {E : XK}
theorem Do (S : rH N c) (hr : dF (k + 1) A) (e0 : xm P w K mg base A outer s H) (ca : jj H f c cs fvs) (hb : ∀ (cl : List (Str × Addr)) (doc pm cd ctv : Value), BindsTo s (fnX c.name c.qual c.params c.body c.scope cl .none .none doc pm none cd ctv) ⟨us, []⟩ (c.ps.zip us)) (r : Vals vs us) (hl : vs.length = c.ps.length)
  (body : ∀ cd : Addr, dF k (A.deeper (envX c.qual c.scope s.heap.objs.size f (.ref cd) (c.xs.zip cs))) → ∃ t, PSs (pB P w K mg base N c.qual c.scope f (.ref cd) (c.xs.zip cs) A outer s (hide H cs)) c.body t ∧ t { nx := fun _ H' => Q .non (over H cs H'), rt := fun v H' => Q v (over H cs H') } (start N (vs ++ fvs)) (hide H cs)) :
  codeAny (model P w) A (.call (.ref f) ⟨us, []⟩) (CR CX0 outer P w H s Q E) s := by
 obtain ⟨⟨cd, doc, pm, ctv, oc, ws, tk, h1, h2, h3, h4⟩, hc, nd, len, lenV⟩ := ca
 have hx : ∀ a ∈ cs, ∃ o, H a = some (aO a o) := fun a ha => by
  obtain ⟨i, hi⟩ := List.getElem?_of_mem ha
  obtain ⟨co, v, u, _, e, _⟩ := hc i a hi
  exact ⟨co, e⟩
 have lim : s.heap.NoLimit := e0.mod.nolimit.keeps fun b o e => (e0.bs b o e).1
 have ndP : c.ps.Nodup := by
  have : c.ps.Sublist N := by
   have h5 : (c.ps ++ c.xs).Sublist N := by rw [← S.pre]; exact List.take_sublist _ _
   exact (List.sublist_append_left _ _).trans h5
  exact S.nd.sublist this
 have ndX : c.xs.Nodup := by
  have : c.xs.Sublist N := by
   have h5 : (c.ps ++ c.xs).Sublist N := by rw [← S.pre]; exact List.take_sublist _ _
   exact (List.sublist_append_right _ _).trans h5
  exact S.nd.sublist this
 have hpl : c.ps.length + c.xs.length ≤ N.length := by
  have := congrArg List.length S.pre
  rw [List.length_take, List.length_append] at this
  omega
 refine codeAny_call_def (fd := fnX c.name c.qual c.params c.body c.scope (c.xs.zip cs) .none .none doc pm none (.ref cd) ctv) (binds := c.ps.zip us) hr.depth (cP e0.hok h1) rfl lim ⟨cd, oc, ws, tk, rfl, cP e0.hok h2, h3, h4⟩ rfl (hb _ _ _ _ _) S.nocell (fun y hy => S.par _ (List.of_mem_zip hy).1) (fun h0 hns hk => ?_) S.co S.gen S.kind
 obtain ⟨t, ht, hq⟩ := body cd (hr.deeper _)
 have hok0 := yV e0.hok hx
 have I : Inv (pB P w K mg base N c.qual c.scope f (.ref cd) (c.xs.zip cs) A outer s (hide H cs)) [] (start N (vs ++ fvs)) (hide H cs) { s with heap := h0, toks := s.toks + (c.ps.zip us).length } := by
  refine ⟨⟨e0.mod, S.kind, rfl, rfl, Nat.le_refl _, fun y z b h5 h6 => ?_, fun y hy => ?_, fun y b h5 _ => absurd h5 Bool.false_ne_true, fun _ => hr.hd, Around.frames_deeper e0.frames, .inr ⟨rfl, rfl⟩, fun b z => absurd (show b ∈ ([] : List Addr) from z) (by simp), fun b o e => ⟨(e0.bs b o e).1, ?_⟩, e0.bsz, fun b _ _ z => absurd (show b ∈ ([] : List Addr) from z) (by simp), fun b z => absurd (show b ∈ ([] : List Addr) from z) (by simp), e0.funs, fun b hb' => ?_⟩,
   rfl, e0.bare, Un.kept hk, ⟨_, hns, fun i y v h5 h6 h7 => ?_⟩, fun y b h5 => ?_, hok0.fresh (Nat.le_refl _), fun y b h5 => ?_, fun p hp => absurd (show p ∈ ([] : List (Addr × Obj)) from hp) (by simp), hok0.kept hk, ?_⟩
  ·obtain ⟨i, i1, i2⟩ := cM h5
   obtain ⟨j, j1, j2⟩ := cM h6
   have := (List.getElem?_inj (List.getElem?_eq_some_iff.mp i2).1 nd).mp (i2.trans j2.symm)
   subst this
   exact Option.some.inj (i1.symm.trans j1)
  ·have hy : c.scope.names.lookup y = some .cell ∨ c.scope.names.lookup y = some .free := hy
   rcases hy with hy | hy
   ·exact absurd rfl (S.nocell _ (PySem.mem_of_lookup hy))
   ·exact uV len (S.fr _ (PySem.mem_of_lookup hy) rfl)
  ·have n := (e0.bs b o e).2
   show hide H cs b = none
   rw [bR]
   ·exact n
   ·intro z
    obtain ⟨o', e'⟩ := hx b z
    rw [n] at e'
    cases e'
  ·have n := e0.frf b hb'
   show hide H cs b = none
   rw [bR]
   ·exact n
   ·intro z
    obtain ⟨o', e'⟩ := hx b z
    rw [n] at e'
    cases e'
  ·have hi : i < (vs ++ fvs).length := by
    unfold start at h6
    by_cases hi : i < (vs ++ fvs).length
    ·exact hi
    ·rw [List.getElem?_append_right (by simpa using hi)] at h6
     rw [List.getElem?_replicate] at h6
     split at h6 <;> cases h6
   have ha : (vs ++ fvs)[i]? = some v := by
    unfold start at h6
    rw [List.getElem?_append_left (by simpa using hi), List.getElem?_map] at h6
    cases e : (vs ++ fvs)[i]? with
    | none => rw [e] at h6; cases h6
    | some a => rw [e] at h6; cases h6; rfl
   rw [List.length_append] at hi
   have hp : (c.ps ++ c.xs)[i]? = some y := by
    rw [← S.pre, List.getElem?_take_of_lt (by omega)]
    exact h5
   by_cases hi2 : i < vs.length
   ·rw [List.getElem?_append_left hi2] at ha
    rw [List.getElem?_append_left (by omega)] at hp
    obtain ⟨u, hu, rv⟩ := r.get ha
    exact ⟨u, rv, .inl ⟨S.par y (List.mem_of_getElem? hp), zj ndP hp hu⟩⟩
   ·rw [List.getElem?_append_right (by omega)] at ha
    rw [List.getElem?_append_right (by omega), ← hl] at hp
    have hj : i - vs.length < cs.length := by
     have := (List.getElem?_eq_some_iff.mp hp).1
     omega
    obtain ⟨b, hb5⟩ : ∃ b, cs[i - vs.length]? = some b := ⟨_, List.getElem?_eq_getElem hj⟩
    obtain ⟨co, v', u, q1, q2, q3, q4⟩ := hc _ b hb5
    rw [ha] at q1
    cases q1
    have hfree : c.scope.names.lookup y = some .free := by
     rcases h7 with q | q | q
     ·exact absurd q (S.frn y (List.mem_of_getElem? hp))
     ·exact absurd rfl (S.nocell _ (PySem.mem_of_lookup q))
     ·exact q
    exact ⟨u, q4, .inr ⟨.inr hfree, b, xN ndX hp hb5, co, hk _ _ (cP e0.hok q2), q3⟩⟩
  ·obtain ⟨i, i1, i2⟩ := cM h5
   obtain ⟨co, v', u, q1, q2, q3, q4⟩ := hc _ b i2
   exact ⟨_, co, hk _ _ (cP e0.hok q2), q3⟩
  ·obtain ⟨i, i1, i2⟩ := cM h5
   exact mF (List.mem_of_getElem? i2)
  ·unfold start
   show _ = N.length
   rw [List.length_append, List.length_map, List.length_replicate, List.length_append]
   omega
 have fin : ∀ {s' : Shared} {σ' : St} {H' : Hp} {v : V} {u : Value}, Inv (pB P w K mg base N c.qual c.scope f (.ref cd) (c.xs.zip cs) A outer s (hide H cs)) [] σ' H' s' → RelV v u → Q v (over H cs H') → CE outer P w H s Q u s' := fun {s' σ' H' v u} J rv q => by
  obtain ⟨k1, k2⟩ := yU e0.hok J.hok hx e0.frf J.base
  exact ⟨v, over H cs H', J.os, J.bare, k2, k1, rv, q⟩
 refine wpAny_mono (ht [] _ (start N (vs ++ fvs)) (hide H cs) _ I hq) (fun fl s' hs => ?_) fun e s' hs => False.elim hs
 cases fl with
 | ret u =>
  obtain ⟨v, σ', H', J, rv, q⟩ := hs
  exact fin J rv q
 | next =>
  obtain ⟨σ', H', J, q⟩ := hs
  exact fin (v := V.non) (u := Value.none) J rfl q
 | brk =>
  obtain ⟨_, _, _, q⟩ := hs
  exact False.elim q
 | cont =>
  obtain ⟨_, _, _, q⟩ := hs
  exact False.elim q
end
end L2
set_option Elab.async false
set_option linter.all false
set_option maxRecDepth 100000
set_option maxHeartbeats 4000000
namespace L2
open PySem PySem.Spec PyProof.Rows PySem.W
def o4 (P : Program) (w : World) (K : PySem.W.Frag) (mg : Str → Option Value) (base : Heap) (k : Nat) (sp : Addr → Sp) : Prop :=
 ∀ (f : Addr) (A : Around) (outer : List Env) (s : Shared) (H : Hp) (us : List Value) (vs : List V) (Q : VK), dF k A → xm P w K mg base A outer s H → Vals vs us → sp f vs H Q E0 →
  codeAny (model P w) A (.call (.ref f) ⟨us, []⟩) (CR CX0 outer P w H s Q E0) s
theorem o4.mono {P : Program} {w : World} {K : PySem.W.Frag} {mg : Str → Option Value} {base : Heap} {j k : Nat} {sp : Addr → Sp} (F : o4 P w K mg base j sp) (h : j ≤ k) : o4 P w K mg base k sp :=
 fun f A outer s H us vs Q hr => F f A outer s H us vs Q (hr.mono h)
def Eu (i : Nat) (sp : Addr → Sp) (t : TA) : TE := fun σ H Q => ∃ f o fd, σ[i]? = some (some (.ref f)) ∧ H f = some (aO f o) ∧ o.data = .func fd ∧ t σ H fun vs H1 => H1 f = some (aO f o) ∧ sp f vs H1 Q E0
section
variable {X : Cx} {k i : Nat} {x : Str} {p pos : Pos} {e : Expr} {es : List Expr} {t : TA} {sp : Addr → Sp}
theorem dh (C : o4 X.prog X.w X.K X.mg X.base k sp) (hr : dF k X.A) (hi : X.N[i]? = some x) (ha : PA X (e :: es) t) (hv : Vis X.env.scope x := by first | exact Or.inl rfl | exact Or.inr (Or.inl rfl) | exact Or.inr (Or.inr rfl))
  (hd : (x == ("__debug__" : Str)) = false := by decide) (hcd : (x == ("__classdict__" : Str)) = false := by decide)
  (he : starEach (e :: es) X.env = (false, eval e X.env) :: starEach es X.env := by rfl) (hpl : (backTo pos (starEach es X.env)).any (·.1) = false := by rfl) : PE X (.Call (.Name x p) (e :: es) [] pos) (Eu i sp t) := by
 intro pins s σ H Q I h
 obtain ⟨f, o, fd, hs, hf, ho, h⟩ := h
 refine wpAny_Call_Name_kw (thn (w5 hi hv hd hcd pins s σ H (fun v H' => v = .ref f ∧ H' = H) I ⟨_, hs, rfl, rfl⟩) fun u s1 hu => ?_)
 obtain ⟨v, H1, I1, rv, rfl, rfl⟩ := hu
 obtain rfl : u = Value.ref f := rv
 have fa : ∀ {H : Hp} {s : Shared}, Inv X pins σ H s → H f = some (aO f o) → FnAt f s.heap := fun {H s} J hf => by
  obtain ⟨oc, od, dt, sl⟩ := o
  have ho : dt = .func fd := ho
  subst ho
  exact ⟨oc, od, fd, sl, cP J.hok hf⟩
 refine callWith_F (fa I1 hf) (thn (ha pos pins s1 σ H1 _ I1 h) fun us s2 ⟨vs, H2, I2, r, hf2, q⟩ => ⟨fa I2 hf2, ?_⟩) he hpl
 refine wpAny_call (codeAny_mono (C f X.A X.stack s2 H2 us vs Q hr I2.env0 r q) fun r s' hq => ?_)
 cases r with
 | error e => exact False.elim hq
 | ok fl =>
  cases fl with
  | ret u => exact I2.after hq
  | next => exact False.elim hq
  | brk => exact False.elim hq
  | cont => exact False.elim hq
end
def BMain (mg : Str → Option Value) (h : Heap) : Prop := ∃ bm ob, mg "__builtins__" = some (.ref bm) ∧ bm ≠ builtinsNs ∧ h.get? bm = some ob ∧ ob.cls = .type "module" ∧ ob.dict = some builtinsNs ∧ ob.data = .plain
def TabAt (H : Hp) (P : Addr) (pos : Pos) (qual : Str) : Prop := ∃ ps : Array Value, H P = some (.tbl ps) ∧ TriplesOk ps.toList ∧
 (codeAmong pos ps.toList = none ∨ ∃ (cd : Addr) (oc : Obj) (vs : Array Value) (t : Tok), codeAmong pos ps.toList = some (.ref cd) ∧ H cd = some (aO cd oc) ∧ oc.data = .fields vs ∧ vs[1]? = some (.str qual t))
section
variable {X : Cx} {pins : List (Addr × Obj)} {σ : St} {H : Hp} {s : Shared} {c P : Addr} {name qual : Str} {params : Arguments} {body : List Stmt} {scope : Scope} {clos : List (Str × Addr)} {pos : Pos} {n : Nat}
theorem CT {M : Model} {A : Around} {E : Value → Shared → Prop} {Q : Value → Shared → Prop} (I : Inv X pins σ H s) (bm : BMain X.mg X.base) (hcode : X.env.code = .ref c) (C : CodeHd X.base c P) (hT : TabAt H P pos qual) (hcl : closureFor scope X.env = pure clos)
  (h : ∀ (fi cd : Addr) (doc pm ctv : Value) (oc : Obj) (vs : Array Value) (t : Tok) (H1 : Hp) (s1 : Shared), Inv X pins σ H1 s1 → H fi = none → (∀ b o, H b = some o → b ≠ P → H1 b = some o) → TabAt H1 P pos qual →
   H1 fi = some (aO fi (fnMade name qual params body scope clos doc pm cd ctv)) → H1 cd = some (aO cd oc) → oc.data = .fields vs → vs[1]? = some (.str qual t) → Q (.ref fi) s1) :
  wpAny M A (makeFunction name qual params (.stmts body) scope X.env [] [] [] pos n) Q E s := by
 obtain ⟨ps, hP, htr, hcase⟩ := hT
 have hPs : s.heap.get? P = some (tabObj ps) := I.hok P _ hP
 have G := I.mod.glob.keeps I.bk
 obtain ⟨bm, ob, b1, b2, b3, b4, b5, b6⟩ := bm
 have b3' := I.bk _ _ b3
 have hgP : mainGlobals ≠ P := fun q => by
  obtain ⟨o, es, ep, e, hd, _⟩ := G
  rw [q, hPs] at e; cases e; cases hd
 have hbP : bm ≠ P := fun q => by
  rw [q, hPs] at b3'; cases b3'; cases b4
 have hbG : bm ≠ mainGlobals := fun q => by
  obtain ⟨o, es, ep, e, hd, _⟩ := G
  rw [q, e] at b3'; cases b3'; rw [hd] at b6; cases b6
 have hbu : s.heap.BuiltinsAt X.mg P := ⟨bm, ob, b1, b2, hbG, hbP, b3', b4, b5, b6⟩
 rcases hcase with hnf | ⟨cd, oc, vs, t, hf, hcd, hd, hv⟩
 ·refine makeFunction_K (mg := X.mg) hcl I.ok.glob G hcode (C.keeps I.bk) hPs htr hnf hgP hbu fun c' ctv doc h' tk hx hge hlt hrec htb => ?_
  obtain ⟨c2, oc, vs, t, e2, hoc, hd, hv⟩ := hrec
  cases e2
  have nc : H c' = none := I.hok.fresh hge
  have nf : H h'.objs.size = none := I.hok.fresh (Nat.le_trans hge (Nat.le_of_lt hlt))
  have nPc : P ≠ c' := aJ hP nc
  have nPf : P ≠ h'.objs.size := aJ hP nf
  have ncf : c' ≠ h'.objs.size := Nat.ne_of_lt hlt
  have k1 : ∀ b, b ≠ P → b ≠ c' → b ≠ h'.objs.size → upd (upd (upd H P (.tbl (ps ++ #[rawInt pos.line, rawInt pos.col, .ref c']))) c' (aO c' oc)) h'.objs.size (aO h'.objs.size (fnMade name qual params body scope clos doc ((X.mg "__name__").getD .none) c' ctv)) b = H b := fun b e1 e2 e3 => by
   rw [aH e3, aH e2, aH e1]
  have kS : ∀ b o, H b = some o → b ≠ P → upd (upd (upd H P (.tbl (ps ++ #[rawInt pos.line, rawInt pos.col, .ref c']))) c' (aO c' oc)) h'.objs.size (aO h'.objs.size (fnMade name qual params body scope clos doc ((X.mg "__name__").getD .none) c' ctv)) b = some o := fun b o e n => by
   rw [k1 b n (aJ e nc) (aJ e nf)]
   exact e
  have kP : upd (upd (upd H P (.tbl (ps ++ #[rawInt pos.line, rawInt pos.col, .ref c']))) c' (aO c' oc)) h'.objs.size (aO h'.objs.size (fnMade name qual params body scope clos doc ((X.mg "__name__").getD .none) c' ctv)) P = some (.tbl (ps ++ #[rawInt pos.line, rawInt pos.col, .ref c'])) := by
   rw [aH nPf, aH nPc, au]
  have kc : upd (upd (upd H P (.tbl (ps ++ #[rawInt pos.line, rawInt pos.col, .ref c']))) c' (aO c' oc)) h'.objs.size (aO h'.objs.size (fnMade name qual params body scope clos doc ((X.mg "__name__").getD .none) c' ctv)) c' = some (aO c' oc) := by
   rw [aH ncf, au]
  have kf : upd (upd (upd H P (.tbl (ps ++ #[rawInt pos.line, rawInt pos.col, .ref c']))) c' (aO c' oc)) h'.objs.size (aO h'.objs.size (fnMade name qual params body scope clos doc ((X.mg "__name__").getD .none) c' ctv)) h'.objs.size = some (aO h'.objs.size (fnMade name qual params body scope clos doc ((X.mg "__name__").getD .none) c' ctv)) := au
  generalize upd (upd (upd H P (.tbl (ps ++ #[rawInt pos.line, rawInt pos.col, .ref c']))) c' (aO c' oc)) h'.objs.size (aO h'.objs.size (fnMade name qual params body scope clos doc ((X.mg "__name__").getD .none) c' ctv)) = H1 at *
  have old : ∀ b o, s.heap.get? b = some o → b ≠ P → (h'.push (fnMade name qual params body scope clos doc ((X.mg "__name__").getD .none) c' ctv)).get? b = some o := fun b o e n => Heap.get?_push_of_some _ (hx b o n e)
  have tabP : (h'.push (fnMade name qual params body scope clos doc ((X.mg "__name__").getD .none) c' ctv)).get? P = some (tabObj (ps ++ #[rawInt pos.line, rawInt pos.col, .ref c'])) := Heap.get?_push_of_some _ htb
  have hl : (ps ++ #[rawInt pos.line, rawInt pos.col, .ref c']).toList = ps.toList ++ [rawInt pos.line, rawInt pos.col, .ref c'] := by simp
  refine h h'.objs.size c' doc _ ctv oc vs t H1 _ (I.call' (ch := []) rfl ⟨fun b o e n hb hx' => ?_, fun b o e n hb hx' => ?_, fun b o e n hx' => ?_, fun b o e hx' => ?_, fun b xs e => ?_, fun b o u e => ?_, fun b qs e => ?_⟩ (fun b u e => ?_) I.bare fun b z => absurd z (by simp)) nf kS ⟨_, kP, by rw [hl]; exact TriplesOk_snoc _ _ _ _ htr, .inr ⟨c', oc, vs, t, by rw [hl]; exact codeAmong_snoc _ htr hnf, kc, hd, hv⟩⟩ kf kc hd hv
  ·exact old b o e fun z => by rw [z, hP] at n; cases n
  ·exact ⟨o.slots, old b o e fun z => by rw [z, hP] at n; cases n⟩
  ·rw [k1 b (fun z => by rw [z, hP] at n; cases n) (Nat.ne_of_lt (Nat.lt_of_lt_of_le (Heap.lt_size e) hge)) (Nat.ne_of_lt (Nat.lt_of_lt_of_le (Heap.lt_size e) (Nat.le_trans hge (Nat.le_of_lt hlt))))]
   exact n
  ·by_cases z : b = P
   ·exact ⟨_, by rw [z]; exact tabP⟩
   ·exact ⟨o, old b o e z⟩
  ·exact kS b _ e fun z => by rw [z, hP] at e; cases e
  ·exact kS b _ e fun z => by rw [z, hP] at e; cases e
  ·by_cases z : b = P
   ·rw [z, hP] at e
    cases e
    exact ⟨_, by rw [z]; exact kP⟩
   ·exact ⟨#[], by rw [kS b _ e z]; simp⟩
  ·by_cases z1 : b = h'.objs.size
   ·rw [z1, kf] at e
    cases e
    rw [z1]
    exact dJ (Heap.get?_push_size _ rfl)
   by_cases z2 : b = c'
   ·rw [z2, kc] at e
    cases e
    rw [z2]
    exact dJ (Heap.get?_push_of_some _ hoc)
   by_cases z3 : b = P
   ·rw [z3, kP] at e
    cases e
    rw [z3]
    exact tabP
   rw [k1 b z3 z2 z1] at e
   refine (I.hok b u e).stay (fun d o hd' q => old d o q ?_) (fun d q => kS d _ q ?_) fun d xs q => kS d _ q ?_
   ·rcases hd' with rfl | hd'
    ·exact z3
    ·exact fun z => by rw [z, hP] at hd'; cases hd'
   ·exact fun z => by rw [z, hP] at q; cases q
   ·exact fun z => by rw [z, hP] at q; cases q
 ·refine makeFunction_hit (mg := X.mg) hcl I.ok.glob G hcode (C.keeps I.bk) hPs htr hf hbu fun ctv doc h' tk hk hsz => ?_
  have nf : H h'.objs.size = none := I.hok.fresh hsz
  have kS : ∀ b o, H b = some o → upd H h'.objs.size (aO h'.objs.size (fnMade name qual params body scope clos doc ((X.mg "__name__").getD .none) cd ctv)) b = some o := fun b o e => by
   rw [aH (aJ e nf)]
   exact e
  have old : ∀ b o, s.heap.get? b = some o → (h'.push (fnMade name qual params body scope clos doc ((X.mg "__name__").getD .none) cd ctv)).get? b = some o := fun b o e => Heap.get?_push_of_some _ (hk b o e)
  refine h h'.objs.size cd doc _ ctv oc vs t _ _ (I.call' (ch := []) rfl (Un.laid old hsz nf) (fun b u e => ?_) I.bare fun b z => absurd z (by simp)) nf (fun b o e _ => kS b o e) ⟨ps, kS _ _ hP, htr, .inr ⟨cd, oc, vs, t, hf, kS _ _ hcd, hd, hv⟩⟩ au (kS _ _ hcd) hd hv
  by_cases z1 : b = h'.objs.size
  ·rw [z1, au] at e
   cases e
   rw [z1]
   exact dJ (Heap.get?_push_size _ rfl)
  rw [aH z1] at e
  exact (I.hok b u e).stay (fun d o _ q => old d o q) (fun d q => kS d _ q) fun d xs q => kS d _ q
end
section
variable {CX : CXT} {P : Program} {w : World} {K : PySem.W.Frag} {mg : Str → Option Value} {base : Heap} {N : List Str} {qual : Str} {scope : Scope} {f c Pt : Addr} {A : Around} {outer : List Env} {s0 s : Shared} {H0 H : Hp} {E : XK} {σ : St} {Q : VK}
theorem Dk {T : qW} {cs : List Addr} {fvs : List V} {pos p1 p2 : Pos} {i : Nat} (I : Inv (fO CX P w K mg base N qual scope f (.ref c) A outer s0 H0 E) [] σ H s) (bm : BMain mg base) (C : CodeHd base c Pt) (hT : TabAt H Pt pos T.qual)
  (hnd : N.Nodup) (hi : N[i]? = some T.name) (hloc : scope.names.lookup T.name = some .local) (hq : qualnameIn (envOfC qual scope s0.heap.objs.size f (.ref c)) T.name T.name = T.qual)
  (hcl : closureFor T.scope (envOfC qual scope s0.heap.objs.size f (.ref c)) = pure (T.xs.zip cs)) (hd0 : T.params.defaults = []) (hk0 : T.params.kw_defaults = []) (ha : annTrees T.params none (envOfC qual scope s0.heap.objs.size f (.ref c)) = [])
  (hndC : cs.Nodup) (hlen : cs.length = T.xs.length) (hlenV : fvs.length = T.xs.length)
  (hfv : ∀ (j : Nat) (a : Addr), cs[j]? = some a → ∃ (x : Str) (m : Nat) (v : V), (envOfC qual scope s0.heap.objs.size f (.ref c)).cells.lookup x = some a ∧ scope.names.lookup x = some .cell ∧ N[m]? = some x ∧ σ[m]? = some (some v) ∧ fvs[j]? = some v ∧ m ≠ i)
  (hQ : ∀ (fi : Addr) (H2 : Hp), H fi = none → (∀ a ∈ cs, H a = none) → (∀ b o, H b = some o → b ≠ Pt → H2 b = some o) → TabAt H2 Pt pos T.qual → jj H2 fi T cs fvs → Q (.ref fi) H2)
  (hdb : (T.name == ("__debug__" : Str)) = false := by decide) (hcdn : (T.name == ("__classdict__" : Str)) = false := by decide) :
  wpAny (model P w) (A.deeper (envOfC qual scope s0.heap.objs.size f (.ref c))) (execs [.FunctionDef T.name T.params T.body [] none [] T.scope none T.name pos, .Return (some (.Name T.name p1)) p2] (envOfC qual scope s0.heap.objs.size f (.ref c)))
   (fun fl s' => ∃ u, fl = .ret u ∧ CE outer P w H0 s0 Q u s') (fO CX P w K mg base N qual scope f (.ref c) A outer s0 H0 E).xe s := by
 refine wpAny_execs_cons (nestDef_K hd0 hk0 ha ?_)
 rw [hq]
 refine CT (X := fO CX P w K mg base N qual scope f (.ref c) A outer s0 H0 E) (n := pos.line) I bm rfl C hT hcl fun fi cd doc pm ctv oc vs t H1 s1 I1 nfi keep hT1 hf1 hc1 hd hv => ?_
 refine qJ (X := fO CX P w K mg base N qual scope f (.ref c) A outer s0 H0 E) (v := .ref fi) I1 hnd hi (.inl hloc) rfl (fun s2 I2 => ?_) (.inr hloc)
 have hiσ : i < σ.length := by rw [I.len]; exact (List.getElem?_eq_some_iff.mp hi).1
 refine wpAny_execs_cons (wpAny_Return_some (thn (w5 (X := fO CX P w K mg base N qual scope f (.ref c) A outer s0 H0 E) hi (.inl hloc) hdb hcdn [] s2 _ H1 (fun v H' => v = .ref fi ∧ H' = H1) I2 ⟨_, List.getElem?_set_self hiσ, rfl, rfl⟩) fun u s3 hu => ?_))
 obtain ⟨v, H', J, rv, rfl, rfl⟩ := hu
 refine ⟨u, rfl, .ref fi, fun b => if b ∈ cs then (s3.heap.get? b).map (aO b) else H' b, J.os, J.bare, ?_, ?_, rv, ?_⟩
 all_goals
  have cellsOf : ∀ a ∈ cs, ∃ x, (envOfC qual scope s0.heap.objs.size f (.ref c)).cells.lookup x = some a := fun a ha' => by
   obtain ⟨j, hj⟩ := List.getElem?_of_mem ha'
   obtain ⟨x, m, v, h1, _⟩ := hfv j a hj
   exact ⟨x, h1⟩
  have fresh : ∀ a ∈ cs, s0.heap.objs.size ≤ a := fun a ha' => by
   obtain ⟨x, hx⟩ := cellsOf a ha'
   exact J.ok.cab x a rfl hx
  have gone : ∀ a ∈ cs, H' a = none := fun a ha' => by
   obtain ⟨x, hx⟩ := cellsOf a ha'
   exact J.freeC x a hx
  have out : ∀ b o, H' b = some o → b ∉ cs := fun b o e z => by
   rw [gone b z] at e
   cases e
 ·have U : Un (frs outer) [] H0 H' s0.heap s3.heap := J.base
  refine ⟨U.keep, U.slot, fun b o e n hx' => ?_, U.there, fun b xs e => ?_, fun b o v e => ?_, fun b ps e => ?_⟩
  ·show (if b ∈ cs then _ else H' b) = none
   rw [if_neg (fun z => absurd (Nat.lt_of_lt_of_le (Heap.lt_size e) (fresh b z)) (Nat.lt_irrefl _))]
   exact U.free b o e n hx'
  ·have e1 := U.tups b xs e
   show (if b ∈ cs then _ else H' b) = _
   rw [if_neg (out b _ e1)]
   exact e1
  ·have e1 := U.frzs b o v e
   show (if b ∈ cs then _ else H' b) = _
   rw [if_neg (out b _ e1)]
   exact e1
  ·obtain ⟨more, e1⟩ := U.tbls b ps e
   refine ⟨more, ?_⟩
   show (if b ∈ cs then _ else H' b) = _
   rw [if_neg (out b _ e1)]
   exact e1
 ·intro b u' e
  have e : (if b ∈ cs then (s3.heap.get? b).map (aO b) else H' b) = some u' := e
  by_cases hb : b ∈ cs
  ·rw [if_pos hb] at e
   cases q : s3.heap.get? b with
   | none => rw [q] at e; cases e
   | some o =>
    rw [q] at e
    cases e
    exact dJ q
  ·rw [if_neg hb] at e
   refine (J.hok b u' e).stay (fun _ _ _ q => q) (fun d q => ?_) fun d xs q => ?_
   ·show (if d ∈ cs then _ else H' d) = _
    rw [if_neg (out d _ q)]
    exact q
   ·show (if d ∈ cs then _ else H' d) = _
    rw [if_neg (out d _ q)]
    exact q
 ·have kp : ∀ b o, H' b = some o → (fun b => if b ∈ cs then (s3.heap.get? b).map (aO b) else H' b) b = some o := fun b o e => by
   show (if b ∈ cs then _ else H' b) = _
   rw [if_neg (out b _ e)]
   exact e
  refine hQ fi _ nfi (fun a ha' => ?_) (fun b o e n => kp b o (keep b o e n)) ?_ ⟨⟨cd, doc, pm, ctv, oc, vs, t, kp _ _ hf1, kp _ _ hc1, hd, hv⟩, fun j a hj => ?_, hndC, hlen, hlenV⟩
  ·obtain ⟨x, hx⟩ := cellsOf a ha'
   exact I.freeC x a hx
  ·obtain ⟨ps, e1, e2, e3⟩ := hT1
   refine ⟨ps, kp _ _ e1, e2, ?_⟩
   rcases e3 with e3 | ⟨cd', oc', vs', t', e4, e5, e6⟩
   ·exact .inl e3
   ·exact .inr ⟨cd', oc', vs', t', e4, kp _ _ e5, e6⟩
  ·obtain ⟨x, m, v, h1, h2, h3, h4, h5, h6⟩ := hfv j a hj
   obtain ⟨mm, _, hl⟩ := J.loc
   obtain ⟨u', r', l⟩ := hl m x v h3 (by rw [List.getElem?_set_ne (Ne.symm h6)]; exact h4) (.inr (.inl h2))
   have l' : ∃ c', (envOfC qual scope s0.heap.objs.size f (.ref c)).cells.lookup x = some c' ∧ s3.heap.IsCell c' (some u') := by
    rcases l with ⟨l1, _⟩ | ⟨_, l2⟩
    ·have l1 : scope.names.lookup x = some .local := l1
     rw [h2] at l1
     cases l1
    ·exact l2
   obtain ⟨c', l1, co, l2, l3⟩ := l'
   rw [h1] at l1
   cases l1
   refine ⟨co, v, u', h5, ?_, l3, r'⟩
   show (if a ∈ cs then (s3.heap.get? a).map (aO a) else H' a) = _
   rw [if_pos (List.mem_of_getElem? hj), l2]
   rfl
theorem Cp {k : Nat} {name : Str} {params : Arguments} {body : List Stmt} {dV kV doc pm cdv ct oc : Value} {an od : Option Addr} {osl : Array (Option Value)} {ps : List Str} {sp : Sp} (lk : K.lookup f = some ⟨oc, od, .func (PySem.W.fnOf name qual params body scope dV kV doc pm an cdv ct), osl⟩) (hcd : PySem.W.codeIn K cdv qual = true) (S : aC N ps scope)
  (len : ∀ vs H Q E, sp vs H Q E → vs.length = ps.length)
  (hbody : ∀ (A : Around) (outer : List Env) (s : Shared) (H : Hp) (vs : List V) (Q : VK) (E : XK) (s1 : Shared), dF k (A.deeper (envOfC qual scope s.heap.objs.size f cdv)) → sp vs H Q E → Inv (fO CX0 P w K mg base N qual scope f cdv A outer s H E) [] (start N vs) H s1 →
   wpAny (model P w) (A.deeper (envOfC qual scope s.heap.objs.size f cdv)) (execs body (envOfC qual scope s.heap.objs.size f cdv)) (fun fl s' => ∃ u, fl = .ret u ∧ CE outer P w H s Q u s') (fO CX0 P w K mg base N qual scope f cdv A outer s H E).xe s1) :
  bj P w K mg base CX0 (k + 1) f (PySem.W.fnOf name qual params body scope dV kV doc pm an cdv ct) ps sp := by
 refine ⟨len, fun A outer s H args us vs Q E hr e0 hb r hsp => ?_⟩
 have hl := len _ _ _ _ hsp
 have KX : K.In s.heap := e0.mod.kin.keeps fun b o e => (e0.bs b o e).1
 have lim : s.heap.NoLimit := e0.mod.nolimit.keeps fun b o e => (e0.bs b o e).1
 have hkind : ∀ y ∈ ps.zip us, scope.names.lookup y.1 = some .local ∨ (scope.names.lookup y.1 = some .cell ∧ ((cellsFrom (s.heap.objs.size + 1) scope.names []).lookup y.1).isSome = true) := fun ⟨n, v⟩ hy => by
  rcases S.par n (List.of_mem_zip hy).1 with q | q
  ·exact .inl q
  ·exact .inr ⟨q, PySem.W.cellsFrom_some _ _ _ (.inl q)⟩
 refine codeAny_call_function hr.depth (KX _ _ lk) rfl S.co S.gen rfl (PySem.W.codeRec_of KX hcd) (hb _ _ _ _ ?_)
 refine wpAny_newFunctionEnv_cells S.kind hkind fun env he s1 x => ?_
 subst he
 refine ⟨lim.keeps x.toInCall.keep, codeAny_func ?_⟩
 have I : Inv (fO CX0 P w K mg base N qual scope f cdv A outer s H E) [] (start N vs) H s1 := sW S hr.hd e0 hl r x
 refine wpAny_mono (hbody A outer s H vs Q E s1 (hr.deeper _) hsp I) (fun fl s' hs => ?_) fun e s' hs => hs
 obtain ⟨u, rfl, q⟩ := hs
 exact q
end
end L2
set_option Elab.async false
set_option linter.all false
set_option maxRecDepth 100000
set_option maxHeartbeats 4000000
namespace L2
open PySem PySem.Spec PyProof.Rows PySem.W
theorem Aq {P : Program} {w : World} {K : PySem.W.Frag} {mg mb : Str → Option Value} {k : Nat} {fa a : Addr} {fd : FuncData} {x : Str} {sp : Sp} {s₁ : Shared} {vs : List Value} {ns : List Int} {tabs : List (Addr × Addr)}
  (KX : K.In s₁.heap) (hns : s₁.heap.Ns mainGlobals mg) (hb : s₁.heap.Ns builtinsNs mb) (hbb : ∀ x : Str, x ≠ "__name__" → mb x = bootBuiltins x) (hlim : s₁.heap.NoLimit) (hbm : BMain mg s₁.heap) (hT : TabsAt tabs s₁.heap) (hNT : noTabs K = true) (hg : s₁.gens = #[])
  (ha : s₁.heap.get? a = some { cls := .type "list", data := .seq vs.toArray }) (hi : IntsAre vs ns) (hl : ns.length ≤ sizeLine) (hr : dF k callerA)
  (F : ∀ base : Heap, K.In base → base.Ns mainGlobals mg → BMain mg base → (∀ q ∈ tabs, CodeHd base q.1 q.2) → bj P w K mg base CX0 k fa fd [x] sp) (hbind : ∀ (s : Shared) (u : Value), BindsTo s fd ⟨[u], []⟩ [(x, u)])
  (hsp : ∀ H : Hp, SqL K H a (ns.map V.int) → (∀ q ∈ tabs, H q.2 = some (.tbl #[])) → sp [.ref a] H (fun v _ => v = .bl true) fun _ _ _ => False) :
  codeAny (model P w) callerA (.call (.ref fa) ⟨[.ref a], []⟩) (fun r s' => r = .ok (.ret (.bool true)) ∧ OldK s₁.heap s'.heap ∧ s'.os = s₁.os ∧ AllBare s'.gens) s₁ := by
 have rv := tG hi
 have lenV := hi.length
 have tabNoK : ∀ b, b ∈ tabs.map (·.2) → K.lookup b = none := fun b hb' => by
  cases q : K.lookup b with
  | none => rfl
  | some o =>
   obtain ⟨r, hr', rfl⟩ := List.mem_map.mp hb'
   have e := KX _ _ q
   rw [(hT r hr').2] at e
   cases e
   have h2 := List.all_eq_true.mp hNT _ (mem_of_lookupK q)
   exact absurd (show false = true from h2) Bool.false_ne_true
 have aNoT : a ∉ tabs.map (·.2) := fun z => by
  obtain ⟨r, hr', e⟩ := List.mem_map.mp z
  have e2 := (hT r hr').2
  rw [e, ha] at e2
  cases e2
 have core : ∀ H : Hp, (∀ b, H b = none ∨ (b = a ∧ K.lookup a = none ∧ H b = some (.frz { cls := .type "list", data := .seq vs.toArray } (.lst (ns.map V.int)))) ∨ (b ∈ tabs.map (·.2) ∧ H b = some (.tbl #[]))) → (∀ q ∈ tabs, H q.2 = some (.tbl #[])) → SqL K H a (ns.map V.int) → HOk P w H s₁.heap →
   codeAny (model P w) callerA (.call (.ref fa) ⟨[.ref a], []⟩) (fun r s' => r = .ok (.ret (.bool true)) ∧ OldK s₁.heap s'.heap ∧ s'.os = s₁.os ∧ AllBare s'.gens) s₁ := by
  intro H hO hTb hS hok
  have base_of : ∀ {b : Addr} {o : Obj}, s₁.heap.get? b = some o → H b = none → (qg s₁.heap H).get? b = some o := fun e n => Bm e n
  have noA : ∀ {b : Addr} {o : Obj}, s₁.heap.get? b = some o → o.cls ≠ .type "list" → o.cls ≠ .none → H b = none := fun {b o} e d1 d2 => by
   rcases hO b with z | ⟨rfl, _, z⟩ | ⟨z, _⟩
   ·exact z
   ·rw [ha] at e
    cases e
    exact absurd rfl d1
   ·obtain ⟨r, hr', rfl⟩ := List.mem_map.mp z
    rw [(hT r hr').2] at e
    cases e
    exact absurd rfl d2
  have noD : ∀ {b : Addr} {o : Obj} {es : Array DictEntry} {ep : Nat}, s₁.heap.get? b = some o → o.data = .dict es ep → H b = none := fun {b o es ep} e d => by
   rcases hO b with z | ⟨rfl, _, z⟩ | ⟨z, _⟩
   ·exact z
   ·rw [ha] at e; cases e
    have d' : Data.seq vs.toArray _ = Data.dict es ep := d
    cases d'
   ·obtain ⟨r, hr', rfl⟩ := List.mem_map.mp z
    rw [(hT r hr').2] at e
    cases e
    have d' : Data.fields _ = Data.dict es ep := d
    cases d'
  have nsK : ∀ {b : Addr} {m : Str → Option Value}, s₁.heap.Ns b m → (qg s₁.heap H).Ns b m := fun {b m} ⟨o, es, ep, e, d, r⟩ => ⟨o, es, ep, base_of e (noD e d), d, r⟩
  have hKb : K.In (qg s₁.heap H) := fun b o e => base_of (KX b o e) (by
   rcases hO b with z | ⟨rfl, z, _⟩ | ⟨z, _⟩
   ·exact z
   ·rw [e] at z; cases z
   ·rw [tabNoK b z] at e; cases e)
  have hM : Mod K mg (qg s₁.heap H) := ⟨hKb, nsK hns, ⟨mb, nsK hb, hbb⟩, let ⟨mc, h1, h2⟩ := hlim; ⟨mc, nsK h1, h2⟩⟩
  have hB : BMain mg (qg s₁.heap H) := by
   obtain ⟨bm, ob, b1, b2, b3, b4, b5⟩ := hbm
   exact ⟨bm, ob, b1, b2, base_of b3 (noA b3 (by rw [b4]; decide) (by rw [b4]; nofun)), b4, b5⟩
  have hC : ∀ q ∈ tabs, CodeHd (qg s₁.heap H) q.1 q.2 := fun q hq => by
   obtain ⟨o, ws, file, tf, flags, tg, inF, text, tt, e1, r1, r2⟩ := (hT q hq).1
   exact ⟨o, ws, file, tf, flags, tg, inF, text, tt, base_of e1 (noA e1 (by rw [r1]; decide) (by rw [r1]; nofun)), r1, r2⟩
  have e0 : xm P w K mg (qg s₁.heap H) callerA [] s₁ H := ⟨rfl, hM, fun b o e => DQ e, Nat.le_of_eq (zp _ _), trivial, fun b hb => absurd (show b ∈ ([] : List Addr) from hb) (by simp), hok, .of_eq hg⟩
  refine codeAny_mono ((F _ hKb (nsK hns) hB hC).run callerA [] s₁ H ⟨[.ref a], []⟩ [.ref a] [.ref a] _ _ hr e0 (hbind s₁ (.ref a)) (.cons rfl .nil) (hsp H hS hTb)) fun r s' h => ?_
  cases r with
  | error e => exact False.elim h
  | ok fl =>
   cases fl with
   | next => exact False.elim h
   | brk => exact False.elim h
   | cont => exact False.elim h
   | ret u =>
    obtain ⟨v, H', os, bare, un, hok', r', q⟩ := h
    have q' : v = .bl true := q
    subst q'
    obtain rfl : u = Value.bool true := r'
    refine ⟨rfl, ⟨fun b o e => ?_, fun b o e => un.there b o e (by simp)⟩, os, bare⟩
    rcases hO b with z | ⟨rfl, _, z⟩ | ⟨z1, z⟩
    ·exact .inl (un.keep b o e z (by intro z; exact absurd (show b ∈ ([] : List Addr) from z) (by simp)) (by simp))
    ·have z2 := un.frzs b _ _ z
     obtain ⟨e1, _⟩ := hok b _ z
     obtain ⟨e2, _⟩ := hok' b _ z2
     rw [e] at e1; cases e1
     exact .inl e2
    ·obtain ⟨more, z2⟩ := un.tbls b _ z
     have e1 : s'.heap.get? b = some { cls := .none, data := .fields (#[] ++ more) } := hok' b _ z2
     obtain ⟨r, hr', rfl⟩ := List.mem_map.mp z1
     have e2 := (hT r hr').2
     rw [e] at e2
     cases e2
     exact .inr (.inl ⟨((hT r hr').1.tab (hT r hr').2).isCodeTable, rfl, #[], more, rfl, e1⟩)
 cases hk : K.lookup a with
 | some o =>
  have e := KX a o hk
  rw [ha] at e
  cases e
  refine core (fun b => if b ∈ tabs.map (·.2) then some (.tbl #[]) else none) (fun b => ?_) (fun q hq => if_pos (List.mem_map_of_mem hq)) (.inr ⟨_, vs.toArray, _, hk, rfl, rfl, rfl, by rw [List.size_toArray, lenV]; exact hl, by simpa using rv⟩) (fun b u z => ?_)
  ·by_cases hb' : b ∈ tabs.map (·.2)
   ·exact .inr (.inr ⟨hb', if_pos hb'⟩)
   ·exact .inl (if_neg hb')
  ·by_cases hb' : b ∈ tabs.map (·.2)
   ·have z' := (if_pos hb').symm.trans z
    cases z'
    obtain ⟨r, hr', rfl⟩ := List.mem_map.mp hb'
    exact (hT r hr').2
   ·have z' := (if_neg hb').symm.trans z
    cases z'
 | none =>
  have hA : (fun b => if b = a then some (.frz { cls := .type "list", data := .seq vs.toArray } (.lst (ns.map V.int))) else if b ∈ tabs.map (·.2) then some (.tbl #[]) else none : Hp) a = some (.frz { cls := .type "list", data := .seq vs.toArray } (.lst (ns.map V.int))) := if_pos rfl
  have hTt : ∀ b ∈ tabs.map (·.2), (fun b => if b = a then some (.frz { cls := .type "list", data := .seq vs.toArray } (.lst (ns.map V.int))) else if b ∈ tabs.map (·.2) then some (.tbl #[]) else none : Hp) b = some (.tbl #[]) := fun b hb' => by
   have hne : b ≠ a := fun e => aNoT (e ▸ hb')
   show (if b = a then _ else if b ∈ tabs.map (·.2) then _ else _) = _
   rw [if_neg hne, if_pos hb']
  have hN : ∀ b, b ≠ a → b ∉ tabs.map (·.2) → (fun b => if b = a then some (.frz { cls := .type "list", data := .seq vs.toArray } (.lst (ns.map V.int))) else if b ∈ tabs.map (·.2) then some (.tbl #[]) else none : Hp) b = none := fun b h1 h2 => by
   show (if b = a then _ else if b ∈ tabs.map (·.2) then _ else _) = _
   rw [if_neg h1, if_neg h2]
  generalize (fun b => if b = a then some (.frz { cls := .type "list", data := .seq vs.toArray } (.lst (ns.map V.int))) else if b ∈ tabs.map (·.2) then some (.tbl #[]) else none : Hp) = H at *
  refine core H (fun b => ?_) (fun q hq => hTt _ (List.mem_map_of_mem hq)) (.inl (.inr ⟨{ cls := .type "list", data := .seq vs.toArray }, hA⟩)) (fun b u z => ?_)
  ·by_cases h1 : b = a
   ·rw [h1]
    exact .inr (.inl ⟨rfl, hk, hA⟩)
   ·by_cases h2 : b ∈ tabs.map (·.2)
    ·exact .inr (.inr ⟨h2, hTt b h2⟩)
    ·exact .inl (hN b h1 h2)
  ·by_cases h1 : b = a
   ·rw [h1, hA] at z
    cases z
    rw [h1]
    exact ⟨ha, by rw [List.length_map]; exact hl, vs, _, rv, ha⟩
   ·by_cases h2 : b ∈ tabs.map (·.2)
    ·rw [hTt b h2] at z
     cases z
     obtain ⟨r, hr', rfl⟩ := List.mem_map.mp h2
     exact (hT r hr').2
    ·rw [hN b h1 h2] at z
     cases z
theorem Cv {l : PySem.W.OpenLaw} {n k : Nat} {q : Program} {loose : List Str} {XP : (Str → Option Value) → Heap → Prop} {YP : World → Heap → Prop} {d : DefRec} {K : Params → PySem.W.Frag} {x : Str}
  (hn : l.most = some n) (hn2 : n ≤ sizeLine) (hdf : d.params.defaults = []) (hr : dF k callerA)
  (hY : ∀ (w : World) (h : Heap), YP w h → (K w.params).In h)
  (F : ∀ (w : World) (mg mb : Str → Option Value) (mean : ExcName → Option Value) (fa : Addr) (h : Heap), (K w.params).In h → Top q (looseW q loose) mean mg mb h → mg d.name = some (.ref fa) →
   ∃ (fd : FuncData) (tabs : List (Addr × Addr)) (sp : Sp), (∀ (s : Shared) (u : Value), BindsTo s fd ⟨[u], []⟩ [(x, u)]) ∧ TabsAt tabs h ∧ noTabs (K w.params) = true ∧
    (∀ base : Heap, (K w.params).In base → base.Ns mainGlobals mg → BMain mg base → (∀ q ∈ tabs, CodeHd base q.1 q.2) → bj l.prog w (K w.params) mg base CX0 k fa fd [x] sp) ∧
    ∀ (H : Hp) (a : Addr) (ns : List Int), ns.length ≤ n → SqL (K w.params) H a (ns.map V.int) → (∀ q ∈ tabs, H q.2 = some (.tbl #[])) → sp [.ref a] H (fun v _ => v = .bl true) fun _ _ _ => False) :
  PySem.W.WalkO q loose XP YP l.row.toRowW d [] (fun f vs => PySem.call f vs) := by
 refine Att.attach_call hn hdf fun w s₀ s₁ mg mb fa o pm cd doc a vs ns G Y ho hd hcd hmg hobj hints hlen hg => ?_
 have KX := hY w _ Y
 obtain ⟨fd, tabs, sp, hb, hT, hNT, hF, hsp⟩ := F w mg mb _ fa _ KX G.T hmg
 exact Aq KX G.T.g G.T.b G.T.builtins G.T.nolimit G.T.bmain hT hNT hg hobj hints (Nat.le_trans hlen hn2) hr hF hb fun H hS hTb => hsp H a ns hlen hS hTb
end L2
set_option Elab.async false
set_option linter.all false
set_option maxRecDepth 100000
set_option maxHeartbeats 4000000
namespace L2
open PySem PySem.Spec PyProof.Rows PySem.W
def Gi (st : Stmt) (qual : Str) (ps xs : List Str) : qW := match st with
 | .FunctionDef n a b _ _ _ sc _ _ _ => ⟨n, qual, a, b, sc, ps, xs⟩
 | _ => ⟨"", qual, defArgs st, [], defScope st, ps, xs⟩
def p7 : Stmt → Pos
 | .FunctionDef _ _ _ _ _ _ _ _ _ p => p
 | _ => ⟨0, 0, 0, 0⟩
structure Fl (N : List Str) (qual : Str) (scope : Scope) (T : qW) (i : Nat) (slots : List Nat) (csF : Addr → List Addr) : Prop where
 nd : N.Nodup
 hi : N[i]? = some T.name
 loc : scope.names.lookup T.name = some .local
 qn : ∀ (L f : Addr) (c : Value), qualnameIn (envOfC qual scope L f c) T.name T.name = T.qual
 cl : ∀ (L f : Addr) (c : Value), closureFor T.scope (envOfC qual scope L f c) = pure (T.xs.zip (csF L))
 d0 : T.params.defaults = []
 k0 : T.params.kw_defaults = []
 an : ∀ (L f : Addr) (c : Value), annTrees T.params none (envOfC qual scope L f c) = []
 ndC : ∀ L : Addr, (csF L).Nodup
 len : ∀ L : Addr, (csF L).length = T.xs.length
 fv : ∀ (L f : Addr) (c : Value) (j : Nat) (a : Addr), (csF L)[j]? = some a → ∃ (x : Str) (m : Nat), (envOfC qual scope L f c).cells.lookup x = some a ∧ scope.names.lookup x = some .cell ∧ N[m]? = some x ∧ slots[j]? = some m ∧ m ≠ i
 db : (T.name == ("__debug__" : Str)) = false
 dn : (T.name == ("__classdict__" : Str)) = false
def Made (H : Hp) (Pt : Addr) (pos : Pos) (T : qW) (slots : List Nat) (σ : St) (Q : VK) : Prop :=
 TabAt H Pt pos T.qual ∧ ∃ fvs : List V, (∀ j m : Nat, slots[j]? = some m → ∃ v, σ[m]? = some (some v) ∧ fvs[j]? = some v) ∧ fvs.length = T.xs.length ∧
  ∀ (fi : Addr) (cs : List Addr) (H2 : Hp), H fi = none → (∀ a ∈ cs, H a = none) → (∀ b o, H b = some o → b ≠ Pt → H2 b = some o) → TabAt H2 Pt pos T.qual → jj H2 fi T cs fvs → Q (.ref fi) H2
section
variable {P : Program} {w : World} {K : PySem.W.Frag} {mg : Str → Option Value} {base : Heap} {x qual : Str} {st : Stmt} {f c Pt : Addr} {fd : FuncData} {N ps : List Str} {k i : Nat} {sp : Sp} {T : qW} {slots : List Nat} {csF : Addr → List Addr} {pos p1 p2 : Pos}
theorem Bq {A : Around} {outer : List Env} {s s1 : Shared} {H H1 : Hp} {Q : VK} {E : XK} {σ : St} (M : Fl N qual (defScope st) T i slots csF) (bm : BMain mg base) (C : CodeHd base c Pt) (I : Inv (fO CX0 P w K mg base N qual (defScope st) f (.ref c) A outer s H E) [] σ H1 s1) (h : Made H1 Pt pos T slots σ Q) :
  wpAny (model P w) (A.deeper (envOfC qual (defScope st) s.heap.objs.size f (.ref c))) (execs [.FunctionDef T.name T.params T.body [] none [] T.scope none T.name pos, .Return (some (.Name T.name p1)) p2] (envOfC qual (defScope st) s.heap.objs.size f (.ref c)))
   (fun fl s' => ∃ u, fl = .ret u ∧ CE outer P w H s Q u s') (fO CX0 P w K mg base N qual (defScope st) f (.ref c) A outer s H E).xe s1 := by
 obtain ⟨hT, fvs, h1, h2, h3⟩ := h
 refine Dk (cs := csF s.heap.objs.size) (fvs := fvs) I bm C hT M.nd M.hi M.loc (M.qn _ _ _) (M.cl _ _ _) M.d0 M.k0 (M.an _ _ _) (M.ndC _) (M.len _) h2 (fun j a e => ?_) (fun fi H2 n1 n2 n3 n4 n5 => h3 fi _ H2 n1 n2 n3 n4 n5) M.db M.dn
 obtain ⟨y, m, e1, e2, e3, e4, e5⟩ := M.fv s.heap.objs.size f (.ref c) j a e
 obtain ⟨v, e6, e7⟩ := h1 j m e4
 exact ⟨y, m, v, e1, e2, e3, e6, e7, e5⟩
theorem Fun.maker0 (F : Fun K x qual st f fd) (S : aC N ps (defScope st)) (M : Fl N qual (defScope st) T i slots csF) (bm : BMain mg base) (hcode : fd.code = .ref c) (C : CodeHd base c Pt) (len : ∀ vs H Q E, sp vs H Q E → vs.length = ps.length)
  (hb : defBody st = [.FunctionDef T.name T.params T.body [] none [] T.scope none T.name pos, .Return (some (.Name T.name p1)) p2])
  (h : ∀ (vs : List V) (H : Hp) (Q : VK) (E : XK), sp vs H Q E → Made H Pt pos T slots (start N vs) Q) : bj P w K mg base CX0 (k + 1) f fd ps sp := by
 obtain ⟨oc, od, kV, doc, pm, an, cdv, ct, osl, rfl, lk, hcd⟩ := F.ex
 obtain rfl : cdv = .ref c := hcode
 refine Cp lk hcd S len fun A outer s H vs Q E s1 hr hsp I => ?_
 rw [hb]
 exact Bq M bm C I (h vs H Q E hsp)
theorem Fd {sp : Addr → Sp} (S : rH N T) (hb : ∀ (cl : List (Str × Addr)) (doc pm cd ctv : Value) (us : List Value), us.length = T.ps.length → bindArgs (fnX T.name T.qual T.params T.body T.scope cl .none .none doc pm none cd ctv) ⟨us, []⟩ = pure (T.ps.zip us))
  (h : ∀ (f : Addr) (vs : List V) (H : Hp) (Q : VK), sp f vs H Q E0 → vs.length = T.ps.length ∧ ∃ cs fvs, jj H f T cs fvs ∧
   ∀ (cd : Addr) (A : Around) (outer : List Env) (s : Shared), dF k (A.deeper (envX T.qual T.scope s.heap.objs.size f (.ref cd) (T.xs.zip cs))) → ∃ t, PSs (pB P w K mg base N T.qual T.scope f (.ref cd) (T.xs.zip cs) A outer s (hide H cs)) T.body t ∧ t { nx := fun _ H' => Q .non (over H cs H'), rt := fun v H' => Q v (over H cs H') } (start N (vs ++ fvs)) (hide H cs)) :
  o4 P w K mg base (k + 1) sp := by
 intro f A outer s H us vs Q hr e0 r hsp
 obtain ⟨hl, cs, fvs, ca, hbody⟩ := h f vs H Q hsp
 exact Do S hr e0 ca (fun cl doc pm cd ctv => .of_eq (hb cl doc pm cd ctv us (by rw [← r.length]; exact hl))) r hl fun cd hr' => hbody cd A outer s hr'
end
theorem tab0 {H : Hp} {P : Addr} {pos : Pos} {qual : Str} (h : H P = some (.tbl #[])) : TabAt H P pos qual := ⟨#[], h, trivial, .inl rfl⟩
theorem wD {K : PySem.W.Frag} {x : Str} {f c P : Addr} {oc to : Value} {od td : Option Addr} {fd : FuncData} {osl tsl : Array (Option Value)} {vs : Array Value} (a : nsIn K mainGlobals x = some (some (.ref f))) (l : K.lookup f = some ⟨oc, od, .func fd, osl⟩) (hc : fd.code = .ref c)
  (t : K.lookup c = some ⟨to, td, .fields vs, tsl⟩) (p : vs[11]? = some (.ref P)) : tabIn K x = some (c, P) := by
 unfold tabIn
 simp only [a, l, hc, t, p]
end L2
set_option Elab.async false
set_option linter.all false
set_option maxRecDepth 100000
set_option maxHeartbeats 4000000
namespace PySem
open PyProof.Rows
namespace F
theorem lri_no_len : typeLookup (.type "list_reverseiterator") "__len__" = pure none := by rw [typeLookup_type, builtinLookup_eq_fast]; kernel_rfl
theorem lri_hint : typeLookup (.type "list_reverseiterator") "__length_hint__" = pure (some (.builtin "list_reverseiterator.__length_hint__")) := by rw [typeLookup_type, builtinLookup_eq_fast]; kernel_rfl
end F
section
variable {prog : Program} {w : World} {A : Around} {E : Value → Shared → Prop} {s : Shared}
theorem qF {it l : Addr} {i : Int} {Q : Bool → Shared → Prop} (hit : s.heap.IsRevIter it l i) (h : Q false s) : wpAny (model prog w) A (Builtin.List.listLengthHint (.ref it)) Q E s := by
 unfold Builtin.List.listLengthHint
 refine wpAny_bind (wpAny_specialOf hit.typeIs F.lri_no_len ?_)
 show wpAny _ A (specialOf (Value.ref it) (Str.ofString "__length_hint__") >>= _) _ _ _
 refine wpAny_bind (wpAny_specialOf hit.typeIs F.lri_hint ?_)
 generalize hid : ("list_reverseiterator.__length_hint__" : String) = id0
 wp_delta
 rw [show splitId id0 = some ("list_reverseiterator", "__length_hint__") from by subst hid; decide +kernel]
 subst hid
 refine wpAny_bind (wpAny_isInstance (T := "list_reverseiterator") (b := true) hit.typeIs (by rw [isSubtype_type]; kernel_rfl) ?_)
 refine wpAny_ite_split (fun hab => absurd hab (by decide)) (fun _ => ?_)
 refine wpAny_ite_split (fun _ => ?_) (fun hab => absurd (by decide +kernel) hab)
 refine wpAny_ite_split (fun hab => absurd hab (by decide +kernel)) (fun _ => ?_)
 exact wpAny_pure h
end
section
variable {prog : Program} {w : World} {A : Around} {s : Shared} {R : Result → Shared → Prop}
theorem ou {it l : Addr} {items : Array Value} (hh : A.handled = none) (hne : l ≠ it) (S : Addr) (res : Value) (c₀ : Nat) (hit : s.heap.IsRevIter it l ((items.size : Int) - 1)) (hl : s.heap.IsList l items) (hSi : S ≠ it) (hSl : S ≠ l)
  (hS : s.heap.get? S = some { cls := .type "list", data := .seq #[] c₀ })
  (hR : ∀ h' tk acc' c', (∀ b o, b ≠ S → b ≠ it → s.heap.get? b = some o → h'.get? b = some o) → h'.get? S = some { cls := .type "list", dict := none, data := .seq acc' c', slots := #[] } →
   ItemsOf (fun i v => items[items.size - 1 - i]? = some v) acc' items.size → R (.ok (.ret res)) { s with heap := h', toks := tk }) (hn : items.size ≤ sizeLine) :
  wpAny (model prog w) A.in1 (Builtin.List.listExtendWith (.ref S) (.ref it) res)
   (fun fin s' => match fin with | .done f => R (.ok f) s' | .again c' => c'.quiet = true ∧ codeAny (model prog w) A c' R s') (fun e s' => R (.error e) s') s := by
 have hSf : S ∉ [it, l] := fun hm => by
  rcases List.mem_cons.mp hm with e | hm
  ·exact hSi e
  ·exact hSl (List.mem_singleton.mp hm)
 have W := (Walks.listRev (prog := prog) (w := w) (A := A.in1) hh it l hne items).toS
 have key : ∀ (h : Heap) (c₁ tk : Nat), h.IsRevIter it l ((items.size : Int) - 1) → h.IsList l items → (∀ b o, b ≠ S → s.heap.get? b = some o → h.get? b = some o) →
   h.get? S = some { cls := .type "list", data := .seq #[] c₁ } → codeAny (model prog w) A (.builtin "list.extend.loop" ⟨[.ref S, .ref it, res], []⟩) R { s with heap := h, toks := tk } := by
  intro h c₁ tk hit₁ hl₁ hk hS₁
  refine codeAny_extend_loopS W hn S hSf res items.size 0 _ #[] c₁ rfl (Nat.zero_le _) ⟨Nat.zero_le _, ?_, hl₁⟩ hS₁ (ItemsOf.nil _) fun s' acc' c' hm hS' hacc => ?_
  ·have e : (items.size : Int) - 1 - ((0 : Nat) : Int) = (items.size : Int) - 1 := by omega
   rw [e]
   exact hit₁
  rw [Moved.eq_with hm]
  refine hR s'.heap s'.toks acc' c' (fun b o hb hb2 e => hm.heap b o (fun hmem => ?_) (hk b o hb e)) hS' hacc
  rcases List.mem_cons.mp hmem with e' | hmem
  ·exact hb e'
  ·exact hb2 (List.mem_singleton.mp hmem)
 unfold Builtin.List.listExtendWith
 refine wpAny_bind (wpAny_typeOf hit.typeIs ?_)
 have h1 : Builtin.List.listSameRef (.ref S) (.ref it) = false := by simp [Builtin.List.listSameRef, hSi]
 have h2 : (Value.type "list_reverseiterator" == Value.type "list") = false := by decide
 have h3 : (Value.type "list_reverseiterator" == Value.type "tuple") = false := by decide
 simp only [h1, h2, h3, Bool.or_false, Bool.false_eq_true, if_false]
 refine wpAny_bind (wpAny_pyIter_revIter hit ?_)
 refine wpAny_bind (wpAny_holding (qF hit ?_))
 refine wpAny_ite_split (fun _ => ?_) (fun _ => wpAny_pure ⟨plainId_quiet F.plain_extend_loop _, key _ c₀ _ hit hl (fun b o _ e => e) hS⟩)
 refine wpAny_bind (wpAny_rule ?_)
 refine wpAny_bind ?_
 show wpAny _ _ (updateSeq S (·.push .none) >>= fun _ => updateSeq S (·.pop)) _ _ _
 refine wpAny_bind (wpAny_updateSeq hS rfl ?_)
 have hS₂ := Heap.get?_update_self (Obj.mapSeq (·.push Value.none)) hS rfl
 refine wpAny_updateSeq (hz := by seq_fits) hS₂ rfl ?_
 have hS₃ := Heap.get?_update_self (Obj.mapSeq (·.pop)) hS₂ rfl
 have oth : ∀ b o, b ≠ S → s.heap.get? b = some o → ((s.heap.update S (Obj.mapSeq (·.push Value.none))).update S (Obj.mapSeq (·.pop))).get? b = some o :=
  fun b o hb e => (Heap.get?_update_other _ _ (Ne.symm hb)).trans ((Heap.get?_update_other _ _ (Ne.symm hb)).trans e)
 exact wpAny_pure ⟨plainId_quiet F.plain_extend_loop _, key _ _ _ (hit.at fun o e => oth it o (Ne.symm hSi) e) (hl.at fun o e => oth l o (Ne.symm hSl) e) oth hS₃⟩
theorem jZ {it l : Addr} {items : Array Value} (hh : A.handled = none) (hne : l ≠ it) (S : Addr) (hit : s.heap.IsRevIter it l ((items.size : Int) - 1)) (hl : s.heap.IsList l items) (hSi : S ≠ it) (hSl : S ≠ l)
  (hS : s.heap.get? S = some { cls := .type "list", data := .seq #[] })
  (hR : ∀ h' tk acc' c', (∀ b o, b ≠ S → b ≠ it → s.heap.get? b = some o → h'.get? b = some o) → h'.get? S = some { cls := .type "list", dict := none, data := .seq acc' c', slots := #[] } →
   ItemsOf (fun i v => items[items.size - 1 - i]? = some v) acc' items.size → R (.ok (.ret .none)) { s with heap := h', toks := tk }) (hn : items.size ≤ sizeLine) :
  wpAny (model prog w) A.in1 (Builtin.«list.__init__» ⟨[.ref S, .ref it], []⟩)
   (fun fin s' => match fin with | .done f => R (.ok f) s' | .again c' => c'.quiet = true ∧ codeAny (model prog w) A c' R s') (fun e s' => R (.error e) s') s := by
 show wpAny _ _ (do let old ← Builtin.List.listItems (.ref S); Builtin.List.listUpdate (.ref S) (fun _ => #[]); letGo old.toList.reverse; Builtin.List.listExtendWith (.ref S) (.ref it) .none) _ _ s
 refine wpAny_bind ?_
 unfold Builtin.List.listItems
 refine wpAny_bind (wpAny_seqItems hS rfl (wpAny_pure ?_))
 show wpAny _ _ (updateSeq S (fun _ => #[]) >>= fun _ => letGo (#[] : Array Value).toList.reverse >>= fun _ => Builtin.List.listExtendWith (.ref S) (.ref it) .none) _ _ s
 refine wpAny_bind (wpAny_updateSeq hS rfl ?_)
 have hS₂ := Heap.get?_update_self (Obj.mapSeq (fun _ => (#[] : Array Value))) hS rfl
 have oth : ∀ b o, b ≠ S → s.heap.get? b = some o → (s.heap.update S (Obj.mapSeq (fun _ => (#[] : Array Value)))).get? b = some o :=
  fun b o hb e => (Heap.get?_update_other _ _ (Ne.symm hb)).trans e
 refine wpAny_bind (wpAny_letGo ?_)
 refine ou hh hne S .none _ (hit.at fun o e => oth it o (Ne.symm hSi) e) (hl.at fun o e => oth l o (Ne.symm hSl) e) hSi hSl hS₂ (fun h' tk acc' c' hk hS' hacc => ?_) hn
 exact hR h' tk acc' c' (fun b o hb hb2 e => hk b o hb hb2 (oth b o hb e)) hS' hacc
end
section
variable {prog : Program} {w : World} {A : Around} {E : Value → Shared → Prop} {s : Shared}
theorem sE {Q : Value → Shared → Prop} {it l : Addr} {items : Array Value} (hh : A.handled = none) (hne : l ≠ it) (hit : s.heap.IsRevIter it l ((items.size : Int) - 1)) (hl : s.heap.IsList l items) (hn : items.size ≤ sizeLine)
  (hQ : ∀ h' tk acc' c', (∀ b o, b ≠ it → s.heap.get? b = some o → h'.get? b = some o) → h'.get? s.heap.objs.size = some { cls := .type "list", dict := none, data := .seq acc' c', slots := #[] } →
   ItemsOf (fun i v => items[items.size - 1 - i]? = some v) acc' items.size → Q (.ref s.heap.objs.size) { s with heap := h', toks := tk }) :
  wpAny (model prog w) A (call (.type "list") [.ref it]) Q E s := by
 obtain ⟨oi, hoi, _⟩ := id hit
 obtain ⟨ol, hol, _⟩ := id hl
 refine callType_codes (Q₁ := fun obj s₁ => obj = .ref s.heap.objs.size ∧ s₁ = { s with heap := s.heap.push { cls := .type "list", data := .seq #[] } }) F.called_list (F.typeCall_list_1 _) F.entry_list_init
  (code_list_new _ ⟨rfl, rfl⟩) fun obj s₁ h₁ => ?_
 obtain ⟨rfl, rfl⟩ := h₁
 have hS : (s.heap.push { cls := .type "list", data := .seq #[] }).get? s.heap.objs.size = some { cls := .type "list", data := .seq #[] } := Heap.get?_push_size _ rfl
 refine ⟨⟨_, hS, rfl⟩, F.args_list_init_2 _ _, jZ (A := A.in1) hh hne _ (hit.at fun o e => Heap.get?_push_of_some _ e) (hl.at fun o e => Heap.get?_push_of_some _ e) (Nat.ne_of_gt (Heap.lt_size hoi)) (Nat.ne_of_gt (Heap.lt_size hol)) hS (fun h' tk acc' c' hk hS' hacc => ?_) hn⟩
 exact ⟨rfl, hQ h' tk acc' c' (fun b o hb e => hk b o (Nat.ne_of_lt (Heap.lt_size e)) hb (Heap.get?_push_of_some _ e)) hS' hacc⟩
end
end PySem
namespace L2
open PySem PySem.Spec PyProof.Rows PySem.W
section
variable {X : Cx}
def G9 (K : PySem.W.Frag) (ta : TA) : TE := fun σ H Q => ta σ H fun vs H1 => ∃ p ys, vs = [.ref p] ∧ SqL K H1 p ys ∧ ∀ l, H1 l = none → Q (.ref l) (upd H1 l (.lst ys.reverse))
theorem kZ {a : Expr} {ta : TA} {p p2 pos pos2 : Pos} (hc : X.calm = true) (hg : Gl X "list") (hm : X.mg "list" = none) (hv : bootBuiltins "list" = some (.type "list")) (hg2 : Gl X "reversed") (hm2 : X.mg "reversed" = none) (hv2 : bootBuiltins "reversed" = some (.type "reversed"))
  (ha : PA X [a] ta) (hs : starEach [a] X.env = [(false, eval a X.env)] := by rfl)
  (he : starEach [.Call (.Name "reversed" p2) [a] [] pos2] X.env = (false, eval (.Call (.Name "reversed" p2) [a] [] pos2) X.env) :: starEach [] X.env := by rfl) (hpl : (backTo pos (starEach [] X.env)).any (·.1) = false := by rfl) :
  PE X (.Call (.Name "list" p) [.Call (.Name "reversed" p2) [a] [] pos2] [] pos) (G9 X.K ta) := by
 intro pins s σ H Q I h
 refine wpAny_Call_Name_kw (dC I hg hm hv ?_)
 refine PyProof.Rows.callWith_type1 ?_ he hpl
 rw [he]
 show wpAny _ _ (spliced ((false, eval (.Call (.Name "reversed" p2) [a] [] pos2) X.env) :: backTo pos (starEach [] X.env))) _ _ s
 refine Calls.spliced_cons ?_
 refine Call_ (dC I hg2 hm2 hv2 (PyProof.Rows.callWith_type1 (thn (ha pos2 pins s σ H _ I h) fun us s1 ⟨vs, H1, I1, r1, q1⟩ => ?_) hs rfl))
 obtain ⟨b, xs, e, hq, q⟩ := q1
 subst e
 obtain ⟨u, rfl, rx⟩ := vals1 r1
 cases rx
 obtain ⟨its, rv, pl, hz⟩ := I1.list hq
 have hl := rv.length
 obtain ⟨ob, hob, hobc, hobn, hobd⟩ := id pl.isList
 have blt : b < s1.heap.objs.size := Heap.lt_size hob
 refine call_reversed_list pl.isList ?_
 refine Calls.spliced_nil ?_
 refine sE (I.ok.hd hc) (l := b) (items := its.toArray) (Nat.ne_of_lt blt) ⟨_, Heap.get?_push_size _ rfl, rfl, rfl⟩ (pl.isList.push _) (by rw [List.size_toArray]; omega) fun h' tk acc' c' hk hS hacc => ?_
 have eacc : acc' = its.reverse.toArray := by
  obtain ⟨e1, e2⟩ := hacc
  apply Array.ext
  ·rw [e1, List.size_toArray, List.size_toArray, List.length_reverse]
  ·intro i h1 h2
   have := e2 i acc'[i] (Array.getElem?_eq_getElem h1)
   rw [List.size_toArray, List.getElem?_toArray, ← List.getElem?_reverse (by rw [e1, List.size_toArray] at h1; exact h1)] at this
   rw [List.getElem_toArray]
   exact (Option.some.inj ((List.getElem?_eq_getElem _).symm.trans this)).symm
 subst eacc
 refine ⟨.ref _, _, I1.laid (t' := tk) (o := .lst xs.reverse) (fun c o e => hk c o (Nat.ne_of_lt (Heap.lt_size e)) (Heap.get?_push_of_some _ e)) ?_ ⟨by rw [List.length_reverse]; exact hz, its.reverse, c', rv.reverse, hS⟩, rfl, q _ (I1.hok.fresh ?_)⟩
 ·show s1.heap.objs.size ≤ (s1.heap.push _).objs.size
  simp [Heap.push]
 ·show s1.heap.objs.size ≤ (s1.heap.push _).objs.size
  simp [Heap.push]
end
end L2
set_option Elab.async false
set_option linter.all false
set_option maxRecDepth 100000
set_option maxHeartbeats 4000000
namespace Tw
def pairs (f : Nat) : List Int := (List.replicate f [1, 0]).flatten
def Tree (ns : List Int) : Prop := 2 ≤ ns.length ∧ ht ns ns.length = 0 ∧ ∀ k, 0 < k → k < ns.length → 0 < ht ns k
end Tw
set_option Elab.async false
set_option linter.all false
set_option maxRecDepth 100000
set_option maxHeartbeats 4000000
namespace Tw
def iu (n S : Nat) : Prop := ∃ h, S = 2 ^ h ∧ n ≤ S ∧ ∀ j, j < h → 2 ^ j < n
theorem iu.uniq {n S S' : Nat} (a : iu n S) (b : iu n S') : S = S' := by
 obtain ⟨h, rfl, h1, h2⟩ := a
 obtain ⟨k, rfl, k1, k2⟩ := b
 rcases Nat.lt_trichotomy h k with q | q | q
 ·have := k2 h q
  omega
 ·rw [q]
 ·have := h2 k q
  omega
theorem iu.pos {n S : Nat} (a : iu n S) : 1 ≤ S := by
 obtain ⟨h, rfl, _⟩ := a
 exact Nat.one_le_two_pow
theorem iu.le {n S : Nat} (a : iu n S) (h : n ≤ 4096) : S ≤ 4096 := by
 obtain ⟨k, rfl, k1, k2⟩ := a
 rcases Nat.lt_or_ge 12 k with q | q
 ·have := k2 12 q
  omega
 ·exact Nat.le_trans (Nat.pow_le_pow_right (by decide) q) (by decide)
def NodeOk (S st sp n e : Nat) : Prop := 1 ≤ n ∧ S ≤ n * 2 ^ e ∧ (n + 1) * 2 ^ e ≤ S + sp ∧ (1 < n → S ≤ n / 2 * 2 ^ (e + 1) ∧ (n / 2 + 1) * 2 ^ (e + 1) ≤ 2 * S ∧ (n / 2 * 2 ^ (e + 1) < S + st ∨ S + sp < (n / 2 + 1) * 2 ^ (e + 1)))
def Chain (S st sp : Nat) : List Nat → Nat → Nat → Prop
 | [], x, y => x = y
 | n :: r, x, y => ∃ e, n * 2 ^ e = x ∧ NodeOk S st sp n e ∧ Chain S st sp r ((n + 1) * 2 ^ e) y
theorem Chain.append {S st sp : Nat} : ∀ {l m : List Nat} {x y z : Nat}, Chain S st sp l x y → Chain S st sp m y z → Chain S st sp (l ++ m) x z
 | [], m, x, y, z, h, k => by
  cases h
  exact k
 | n :: r, m, x, y, z, h, k => by
  obtain ⟨e, h1, h2, h3⟩ := h
  exact ⟨e, h1, h2, h3.append k⟩
theorem Chain.one {S st sp n e : Nat} (h : NodeOk S st sp n e) : Chain S st sp [n] (n * 2 ^ e) ((n + 1) * 2 ^ e) := ⟨e, rfl, h, rfl⟩
structure Cov (S st sp e low high : Nat) (ls rs : List Nat) : Prop where
 lo1 : S + st ≤ low * 2 ^ e
 lo2 : low * 2 ^ e < S + st + 2 ^ e
 hi1 : high * 2 ^ e ≤ S + sp
 hi2 : S + sp < high * 2 ^ e + 2 ^ e
 le : low ≤ high
 left : Chain S st sp ls (S + st) (low * 2 ^ e)
 right : Chain S st sp rs.reverse (high * 2 ^ e) (S + sp)
theorem Cov.start {S st sp : Nat} (h : st ≤ sp) : Cov S st sp 0 (S + st) (S + sp) [] [] := by
 refine ⟨by omega, by omega, by omega, by omega, by omega, ?_, ?_⟩
 ·show S + st = (S + st) * 2 ^ 0
  omega
 ·show (S + sp) * 2 ^ 0 = S + sp
  omega
theorem vK {h e n : Nat} (h1 : 2 ^ h ≤ n * 2 ^ e) (h2 : n * 2 ^ e < 2 * 2 ^ h) (h3 : 1 < n) : e < h := by
 rcases Nat.lt_or_ge e h with q | q
 ·exact q
 ·exfalso
  have : 2 ^ h ≤ 2 ^ e := Nat.pow_le_pow_right (by decide) q
  have : 2 * 2 ^ e ≤ n * 2 ^ e := Nat.mul_le_mul_right _ h3
  omega
theorem CP {h e m : Nat} (he : e < h) (h1 : 2 ^ h ≤ (2 * m + 1) * 2 ^ e) : 2 ^ h ≤ m * 2 ^ (e + 1) := by
 have e1 : 2 ^ h = 2 ^ (h - e - 1) * 2 ^ (e + 1) := by
  rw [← Nat.pow_add]
  congr 1
  omega
 rw [e1] at h1 ⊢
 refine Nat.mul_le_mul_right _ ?_
 rw [Nat.pow_succ] at h1
 have h2 : 2 ^ (h - e - 1) * (2 ^ e * 2) = (2 * 2 ^ (h - e - 1)) * 2 ^ e := by
  rw [Nat.mul_comm (2 ^ e) 2, ← Nat.mul_assoc, Nat.mul_comm _ 2]
 rw [h2] at h1
 have := Nat.le_of_mul_le_mul_right h1 (Nat.two_pow_pos e)
 omega
theorem Cov.leftOdd {S st sp e low high : Nat} {ls rs : List Nat} (c : Cov S st sp e low high ls rs) (hS : ∃ h, S = 2 ^ h) (hsp : sp ≤ S) (h0 : 1 ≤ S) (hlt : low < high) (ho : low % 2 = 1) : Chain S st sp (ls ++ [low]) (S + st) ((low + 1) * 2 ^ e) := by
 obtain ⟨h, eS⟩ := hS
 obtain ⟨m, rfl⟩ : ∃ m, low = 2 * m + 1 := ⟨low / 2, by omega⟩
 have hp : 0 < 2 ^ e := Nat.two_pow_pos e
 have k1 : (2 * m + 1 + 1) * 2 ^ e ≤ high * 2 ^ e := Nat.mul_le_mul_right _ hlt
 have l1 := c.lo1
 have l2 := c.lo2
 have g1 := c.hi1
 have e1 : (2 * m + 1) / 2 = m := by omega
 have e2 : m * 2 ^ (e + 1) = 2 * (m * 2 ^ e) := by rw [Nat.pow_succ, ← Nat.mul_assoc, Nat.mul_comm]
 have e3 : (2 * m + 1) * 2 ^ e = 2 * (m * 2 ^ e) + 2 ^ e := by rw [Nat.add_mul, Nat.mul_assoc, Nat.one_mul]
 have e4 : (2 * m + 1 + 1) * 2 ^ e = 2 * (m * 2 ^ e) + 2 ^ e + 2 ^ e := by rw [Nat.add_mul, e3, Nat.one_mul]
 have e5 : (m + 1) * 2 ^ (e + 1) = 2 * (m * 2 ^ e) + 2 * 2 ^ e := by rw [Nat.add_mul, e2, Nat.one_mul, Nat.pow_succ]; omega
 refine c.left.append (.one ⟨by omega, by omega, by omega, fun h1 => ?_⟩)
 rw [e1]
 have ht : e < h := by
  refine vK (n := 2 * m + 1) ?_ ?_ h1
  ·rw [← eS]; omega
  ·rw [← eS]; omega
 have o := CP (m := m) ht (by rw [← eS]; omega)
 rw [← eS] at o
 exact ⟨o, by omega, .inl (by omega)⟩
theorem Cov.rightOdd {S st sp e low high : Nat} {ls rs : List Nat} (c : Cov S st sp e low high ls rs) (hS : ∃ h, S = 2 ^ h) (hsp : sp ≤ S) (h0 : 1 ≤ S) (hlt : low < high) (ho : high % 2 = 1) : Chain S st sp (rs ++ [high - 1]).reverse ((high - 1) * 2 ^ e) (S + sp) := by
 obtain ⟨m, rfl⟩ : ∃ m, high = 2 * m + 1 := ⟨high / 2, by omega⟩
 have hp : 0 < 2 ^ e := Nat.two_pow_pos e
 have k1 : low * 2 ^ e ≤ (2 * m) * 2 ^ e := Nat.mul_le_mul_right _ (by omega)
 have l1 := c.lo1
 have g1 := c.hi1
 have g2 := c.hi2
 have hl0 : 1 ≤ low := by
  rcases Nat.eq_zero_or_pos low with q | q
  ·rw [q, Nat.zero_mul] at l1
   omega
  ·exact q
 have e2 : m * 2 ^ (e + 1) = 2 * (m * 2 ^ e) := by rw [Nat.pow_succ, ← Nat.mul_assoc, Nat.mul_comm]
 have e3 : (2 * m + 1) * 2 ^ e = 2 * (m * 2 ^ e) + 2 ^ e := by rw [Nat.add_mul, Nat.mul_assoc, Nat.one_mul]
 have e4 : (2 * m) * 2 ^ e = 2 * (m * 2 ^ e) := by rw [Nat.mul_assoc]
 have e5 : (m + 1) * 2 ^ (e + 1) = 2 * (m * 2 ^ e) + 2 * 2 ^ e := by rw [Nat.add_mul, e2, Nat.one_mul, Nat.pow_succ]; omega
 have e6 : 2 * m + 1 - 1 = 2 * m := by omega
 have e7 : 2 * m / 2 = m := by omega
 have hr := c.right
 rw [List.reverse_append, e6]
 refine Chain.append (l := [2 * m]) (.one ⟨by omega, by omega, by omega, fun h1 => ?_⟩) hr
 rw [e7]
 obtain ⟨h, eS⟩ := hS
 have ht : e < h := by
  refine vK (n := 2 * m) ?_ ?_ h1
  ·rw [← eS]; omega
  ·rw [← eS]; omega
 have e8 : 2 * S = 2 ^ (h - e) * 2 ^ (e + 1) := by
  rw [eS, ← Nat.pow_add, Nat.mul_comm, ← Nat.pow_succ]
  congr 1
  omega
 refine ⟨by omega, ?_, .inr (by omega)⟩
 rw [e8]
 refine Nat.mul_le_mul_right _ ?_
 have : m * 2 ^ (e + 1) < 2 ^ (h - e) * 2 ^ (e + 1) := by omega
 have := Nat.lt_of_mul_lt_mul_right this
 omega
theorem Cov.step {S st sp e low high : Nat} {ls rs : List Nat} (c : Cov S st sp e low high ls rs) (hS : ∃ h, S = 2 ^ h) (hsp : sp ≤ S) (h0 : 1 ≤ S) (hlt : low < high) :
  Cov S st sp (e + 1) ((low + low % 2) / 2) ((high - high % 2) / 2) (if low % 2 = 1 then ls ++ [low] else ls) (if high % 2 = 1 then rs ++ [high - 1] else rs) := by
 have l1 := c.lo1
 have l2 := c.lo2
 have g1 := c.hi1
 have g2 := c.hi2
 have hp : 0 < 2 ^ e := Nat.two_pow_pos e
 have ep : 2 ^ (e + 1) = 2 * 2 ^ e := by rw [Nat.pow_succ, Nat.mul_comm]
 have twice : ∀ m, m * 2 ^ (e + 1) = (2 * m) * 2 ^ e := fun m => by rw [ep, ← Nat.mul_assoc, Nat.mul_comm m 2]
 have el : 2 * ((low + low % 2) / 2) = low + low % 2 := by omega
 have eh : 2 * ((high - high % 2) / 2) = high - high % 2 := by omega
 have q1 : (low + low % 2) * 2 ^ e = low * 2 ^ e + (low % 2) * 2 ^ e := Nat.add_mul ..
 have q2 : (high - high % 2) * 2 ^ e + (high % 2) * 2 ^ e = high * 2 ^ e := by
  rw [← Nat.add_mul]
  congr 1
  omega
 have r1 : (low % 2) * 2 ^ e = if low % 2 = 1 then 2 ^ e else 0 := by
  split
  ·rename_i z; rw [z, Nat.one_mul]
  ·rename_i z; rw [show low % 2 = 0 from by omega, Nat.zero_mul]
 have r2 : (high % 2) * 2 ^ e = if high % 2 = 1 then 2 ^ e else 0 := by
  split
  ·rename_i z; rw [z, Nat.one_mul]
  ·rename_i z; rw [show high % 2 = 0 from by omega, Nat.zero_mul]
 refine ⟨?_, ?_, ?_, ?_, by omega, ?_, ?_⟩
 ·rw [twice, el, q1]
  omega
 ·rw [twice, el, q1, ep, r1]
  split <;> omega
 ·rw [twice, eh]
  omega
 ·rw [twice, eh, ep]
  rw [r2] at q2
  split at q2 <;> omega
 ·rw [twice, el]
  split
  ·rename_i z
   rw [z]
   exact c.leftOdd hS hsp h0 hlt z
  ·rename_i z
   rw [show low % 2 = 0 from by omega, Nat.add_zero]
   exact c.left
 ·rw [twice, eh]
  split
  ·rename_i z
   rw [z]
   exact c.rightOdd hS hsp h0 hlt z
  ·rename_i z
   rw [show high % 2 = 0 from by omega, Nat.sub_zero]
   exact c.right
theorem Cov.fin {S st sp e low high : Nat} {ls rs : List Nat} (c : Cov S st sp e low high ls rs) (h : high ≤ low) : Chain S st sp (ls ++ rs.reverse) (S + st) (S + sp) := by
 have : low = high := Nat.le_antisymm c.le h
 subst this
 exact c.left.append c.right
end Tw
namespace Tw
def sH : Nat → Nat → Nat → List Nat → List Nat → List Nat
 | 0, _, _, ls, rs => ls ++ rs.reverse
 | f + 1, low, high, ls, rs => if low < high then sH f ((low + low % 2) / 2) ((high - high % 2) / 2) (if low % 2 = 1 then ls ++ [low] else ls) (if high % 2 = 1 then rs ++ [high - 1] else rs) else ls ++ rs.reverse
theorem Ce {f low high : Nat} {ls rs : List Nat} (h : high ≤ low) : sH f low high ls rs = ls ++ rs.reverse := by
 cases f with
 | zero => rfl
 | succ f =>
  unfold sH
  rw [if_neg (by omega)]
theorem rm {S st sp : Nat} (hS : ∃ h, S = 2 ^ h) (hsp : sp ≤ S) (h0 : 1 ≤ S) : ∀ (f e low high : Nat) (ls rs : List Nat), Cov S st sp e low high ls rs → high - low ≤ f → Chain S st sp (sH f low high ls rs) (S + st) (S + sp)
 | 0, e, low, high, ls, rs, c, h => c.fin (by omega)
 | f + 1, e, low, high, ls, rs, c, h => by
  unfold sH
  by_cases q : low < high
  ·rw [if_pos q]
   exact rm hS hsp h0 f (e + 1) _ _ _ _ (c.step hS hsp h0 q) (by omega)
  ·rw [if_neg q]
   exact c.fin (by omega)
def cover (S st sp : Nat) : List Nat := sH (sp - st) (S + st) (S + sp) [] []
theorem jK {S st sp : Nat} (hS : ∃ h, S = 2 ^ h) (h : st ≤ sp) (hsp : sp ≤ S) (h0 : 1 ≤ S) : Chain S st sp (cover S st sp) (S + st) (S + sp) :=
 rm hS hsp h0 _ 0 _ _ _ _ (.start h) (by omega)
end Tw
set_option Elab.async false
set_option linter.all false
set_option maxRecDepth 100000
set_option maxHeartbeats 4000000
namespace PySem
open PyProof.Rows
namespace F
end F
section
variable {prog : Program} {w : World} {A : Around} {E : Value → Shared → Prop} {s : Shared}
end
end PySem
namespace L2
open PySem PySem.Spec PyProof.Rows
section
variable {X : Cx} {tg : Expr}
theorem Ed (a b : Nat) : Builtin.Range.rangeSize a b (-1) = ((a - b : Nat) : Int) := by
 unfold Builtin.Range.rangeSize
 rw [if_neg (by decide), show (- -1 : Int) = 1 from rfl, Int.ediv_one]
 split <;> omega
theorem ye {a b : Nat} (ha : a < 536870912) (hb : b < 536870912) : Builtin.Range.small a b (-1) = true := by
 unfold Builtin.Range.small Builtin.Range.rangeFitsLong
 rw [Ed]
 have e : (2 : Int) ^ 63 = 9223372036854775808 := by decide
 rw [e, if_neg (by decide)]
 refine lq (lq (lq (lq (lq (decide_eq_true ?_) (decide_eq_true ?_)) (lq (decide_eq_true ?_) (decide_eq_true ?_))) (by decide)) (lq (decide_eq_true ?_) (decide_eq_true ?_))) ?_
 ·omega
 ·omega
 ·omega
 ·omega
 ·omega
 ·omega
 ·rw [Bool.or_eq_true]
  exact .inr (lq (decide_eq_true (by omega)) (decide_eq_true (by omega)))
def Em (ta : TA) : TI := fun σ H R => ta σ H fun vs H1 => ∃ a b : Nat, vs = [.int (a : Int), .int (b : Int), .int (-1)] ∧ a < 536870912 ∧ b < 536870912 ∧ R (Its a (-1) (a - b)) H1
theorem rD {a b c : Expr} {ta : TA} {p pos : Pos} (hg : Gl X "range") (hm : X.mg "range" = none) (ha : PA X [a, b, c] ta) (hs : starEach [a, b, c] X.env = [(false, eval a X.env), (false, eval b X.env), (false, eval c X.env)] := by rfl)
  (hs2 : starEach [b, c] X.env = [(false, eval b X.env), (false, eval c X.env)] := by rfl) : PI X tg (.Call (.Name "range" p) [a, b, c] [] pos) (Em ta) := by
 intro pins s σ H R I h
 refine Call_ (dC I hg hm boot_range (PyProof.Rows.callWith_type1 (thn (ha pos pins s σ H _ I h) fun us s1 ⟨vs, H1, I1, r1, q1⟩ => ?_) (by rw [hs, hs2]) (by rw [hs2]; rfl)))
 obtain ⟨x, y, e, l0, l1, q⟩ := q1
 subst e
 cases r1 with
 | cons r rr =>
  cases rr with
  | cons r' rr =>
   cases rr with
   | cons r'' rr =>
    cases rr
    obtain ⟨t, rfl⟩ := r
    obtain ⟨t', rfl⟩ := r'
    obtain ⟨t'', rfl⟩ := r''
    refine call_range_3 (by decide) ?_ (.inl (PyProof.noPylong_small (by decide)))
    refine wpAny_pyIter_range (IsRange.new ..) (ye l0 l1) ?_
    have I2 : Inv X pins σ H1 { s1 with heap := s1.heap.push { cls := .type "range", data := .fields #[.int x t, .int y t', .int (-1) t''] }, toks := s1.toks } := I1.kept fun b o e => Heap.get?_push_of_some _ e
    refine ⟨(s1.heap.push { cls := .type "range", data := .fields #[.int x t, .int y t', .int (-1) t''] }).objs.size, [(s1.heap.push { cls := .type "range", data := .fields #[.int x t, .int y t', .int (-1) t''] }).objs.size], _, _, H1, rfl,
     I2.kept (t' := s1.toks) fun b o e => Heap.get?_push_of_some _ e, tY _ x (-1) (x - y), ?_, fun b hb => ?_, q⟩
    ·have e1 : (x : Int) + ((0 : Nat) : Int) * (-1) = x := by omega
     have e2 : ((x - y : Nat) : Int) - ((0 : Nat) : Int) = Builtin.Range.rangeSize x y (-1) := by rw [Ed]; omega
     show IsRangeIter _ _ ((x : Int) + ((0 : Nat) : Int) * (-1)) (((x - y : Nat) : Int) - ((0 : Nat) : Int)) (-1)
     rw [e1, e2]
     exact Heap.get?_push_size _ rfl
    ·have e : b = (s1.heap.push { cls := .type "range", data := .fields #[.int x t, .int y t', .int (-1) t''] }).objs.size := by simpa using hb
     subst e
     exact I2.fpOk (Nat.le_refl _) (I2.hok.fresh (Nat.le_refl _))
end
end L2
set_option Elab.async false
set_option linter.all false
set_option maxRecDepth 100000
set_option maxHeartbeats 4000000
namespace Tw
open L2
def NI (x : V) : Prop := x = .non ∨ ∃ i, x = .int i
def ud : V → V → V
 | .non, y => y
 | .int a, .int b => .int (if b < a then b else a)
 | x, _ => x
theorem tu (y : V) : ud .non y = y := by cases y <;> rfl
theorem Ba {x y : V} (hx : NI x) (hy : NI y) : NI (ud x y) := by
 rcases hx with rfl | ⟨i, rfl⟩
 ·rw [tu]
  exact hy
 ·rcases hy with rfl | ⟨j, rfl⟩
  ·exact .inr ⟨i, rfl⟩
  ·exact .inr ⟨_, rfl⟩
def vR (ns : List Int) (i : Nat) : V := match ns[i]? with | some c => .int c | none => .non
theorem qi {ns : List Int} {i : Nat} {c : Int} (h : ns[i]? = some c) : vR ns i = .int c := by
 unfold vR
 rw [h]
theorem yw {ns : List Int} {i : Nat} (h : ns.length ≤ i) : vR ns i = .non := by
 unfold vR
 rw [List.getElem?_eq_none h]
structure fG (ns : List Int) (S k : Nat) (xs : List V) : Prop where
 len : xs.length = 2 * S
 zero : xs[0]? = some .non
 leaf : ∀ i, i < S → xs[S + i]? = some (vR ns i)
 node : ∀ j, k ≤ j → 1 ≤ j → j < S → ∃ x y, xs[2 * j]? = some x ∧ xs[2 * j + 1]? = some y ∧ xs[j]? = some (ud x y)
 ni : ∀ x ∈ xs, NI x
theorem fG.start {ns : List Int} {S : Nat} (h0 : 1 ≤ S) (hl : ns.length ≤ S) : fG ns S S (List.replicate S V.non ++ ns.map V.int ++ List.replicate (S - ns.length) V.non) := by
 refine ⟨?_, ?_, fun i hi => ?_, fun j h1 h2 h3 => by omega, fun x hx => ?_⟩
 ·simp only [List.length_append, List.length_replicate, List.length_map]
  omega
 ·rw [List.append_assoc, List.getElem?_append_left (by rw [List.length_replicate]; omega), List.getElem?_replicate, if_pos (by omega)]
 ·rw [List.append_assoc, List.getElem?_append_right (by rw [List.length_replicate]; omega), List.length_replicate, Nat.add_sub_cancel_left]
  by_cases h : i < ns.length
  ·rw [List.getElem?_append_left (by rw [List.length_map]; exact h), List.getElem?_map, List.getElem?_eq_getElem h, qi (List.getElem?_eq_getElem h)]
   rfl
  ·rw [List.getElem?_append_right (by rw [List.length_map]; omega), List.length_map, List.getElem?_replicate, if_pos (by omega), yw (by omega)]
 ·rcases List.mem_append.mp hx with hx | hx
  ·rcases List.mem_append.mp hx with hx | hx
   ·exact .inl (List.eq_of_mem_replicate hx)
   ·obtain ⟨i, _, rfl⟩ := List.mem_map.mp hx
    exact .inr ⟨i, rfl⟩
  ·exact .inl (List.eq_of_mem_replicate hx)
theorem fG.step {ns : List Int} {S k : Nat} {xs : List V} {x y : V} (h : fG ns S (k + 1) xs) (h1 : 1 ≤ k) (hk : k < S) (hx : xs[2 * k]? = some x) (hy : xs[2 * k + 1]? = some y) : fG ns S k (xs.set k (ud x y)) := by
 have hl := h.len
 have oth : ∀ j, j ≠ k → (xs.set k (ud x y))[j]? = xs[j]? := fun j hj => List.getElem?_set_ne (Ne.symm hj)
 refine ⟨by rw [List.length_set]; exact hl, ?_, fun i hi => ?_, fun j a b c => ?_, fun z hz => ?_⟩
 ·rw [oth 0 (by omega)]
  exact h.zero
 ·rw [oth (S + i) (by omega)]
  exact h.leaf i hi
 ·by_cases e : j = k
  ·subst e
   refine ⟨x, y, ?_, ?_, ?_⟩
   ·rw [oth (2 * j) (by omega)]
    exact hx
   ·rw [oth (2 * j + 1) (by omega)]
    exact hy
   ·exact List.getElem?_set_self (by omega)
  ·obtain ⟨u, v, e1, e2, e3⟩ := h.node j (by omega) b c
   refine ⟨u, v, ?_, ?_, ?_⟩
   ·rw [oth (2 * j) (by omega)]
    exact e1
   ·rw [oth (2 * j + 1) (by omega)]
    exact e2
   ·rw [oth j e]
    exact e3
 ·rcases List.mem_or_eq_of_mem_set hz with hz | rfl
  ·exact h.ni z hz
  ·exact Ba (h.ni x (List.mem_of_getElem? hx)) (h.ni y (List.mem_of_getElem? hy))
theorem cH {xs : List V} {j : Nat} {x : V} (h : xs[j]? = some x) : atI xs (j : Int) = some x := zc h
end Tw
set_option Elab.async false
set_option linter.all false
set_option maxRecDepth 100000
set_option maxHeartbeats 4000000
namespace Tw
open L2
def mQ (ns : List Int) (a b : Nat) (M : Int) : Prop := (∃ i, a ≤ i ∧ i < b ∧ ns[i]? = some M) ∧ ∀ i c, a ≤ i → i < b → ns[i]? = some c → M ≤ c
theorem mQ.join {ns : List Int} {a b c : Nat} {M N : Int} (h : mQ ns a b M) (k : mQ ns b c N) (hab : a ≤ b) (hbc : b ≤ c) : mQ ns a c (if N < M then N else M) := by
 obtain ⟨⟨i, i1, i2, i3⟩, h2⟩ := h
 obtain ⟨⟨j, j1, j2, j3⟩, k2⟩ := k
 constructor
 ·split
  ·exact ⟨j, by omega, j2, j3⟩
  ·exact ⟨i, i1, by omega, i3⟩
 ·intro t x t1 t2 e
  rcases Nat.lt_or_ge t b with q | q
  ·have := h2 t x t1 q e
   split <;> omega
  ·have := k2 t x q t2 e
   split <;> omega
theorem fG.least {ns : List Int} {S : Nat} {xs : List V} (h : fG ns S 1 xs) (hl : ns.length ≤ S) : ∀ e n a : Nat, n * 2 ^ e = S + a → a + 2 ^ e ≤ ns.length → 1 ≤ n → ∃ M, xs[n]? = some (.int M) ∧ mQ ns a (a + 2 ^ e) M
 | 0, n, a, h1, h2, h3 => by
  rw [Nat.pow_zero] at h2
  rw [Nat.pow_zero, Nat.mul_one] at h1
  have hg : ns[a]? = some ns[a] := List.getElem?_eq_getElem (by omega)
  have := h.leaf a (by omega)
  rw [← h1, qi hg] at this
  refine ⟨_, this, ⟨a, Nat.le_refl _, by omega, hg⟩, fun i c i1 i2 e => ?_⟩
  have : i = a := by omega
  subst this
  rw [hg] at e
  cases e
  exact Int.le_refl _
 | e + 1, n, a, h1, h2, h3 => by
  have hp : 0 < 2 ^ e := Nat.two_pow_pos e
  have ep : 2 ^ (e + 1) = 2 * 2 ^ e := by rw [Nat.pow_succ, Nat.mul_comm]
  rw [ep] at h1 h2
  have c1 : 2 * n * 2 ^ e = S + a := by rw [← h1, ← Nat.mul_assoc, Nat.mul_comm n 2]
  have c2 : (2 * n + 1) * 2 ^ e = S + (a + 2 ^ e) := by rw [Nat.add_mul, c1, Nat.one_mul]; omega
  have hn : n < S := by
   rcases Nat.lt_or_ge n S with z | z
   ·exact z
   ·exfalso
    have : S * (2 * 2 ^ e) ≤ n * (2 * 2 ^ e) := Nat.mul_le_mul_right _ z
    have : 2 * S ≤ S * (2 * 2 ^ e) := by
     rw [Nat.mul_comm 2 S]
     exact Nat.mul_le_mul_left _ (by omega)
    omega
  obtain ⟨M, e1, m1⟩ := fG.least h hl e (2 * n) a c1 (by omega) (by omega)
  obtain ⟨N, e2, m2⟩ := fG.least h hl e (2 * n + 1) (a + 2 ^ e) c2 (by omega) (by omega)
  obtain ⟨x, y, f1, f2, f3⟩ := h.node n h3 h3 hn
  rw [e1] at f1
  rw [e2] at f2
  cases f1
  cases f2
  refine ⟨_, f3, ?_⟩
  have := m1.join m2 (by omega) (by omega)
  rw [ep, show a + 2 * 2 ^ e = a + 2 ^ e + 2 ^ e from by omega]
  exact this
def iy (xs : List V) (n : Nat) : Int := match xs[n]? with | some (.int M) => M | _ => 0
theorem fB {xs : List V} {n : Nat} {M : Int} (h : xs[n]? = some (.int M)) : iy xs n = M := by
 unfold iy
 rw [h]
theorem fQ {ns : List Int} {S st sp : Nat} {xs : List V} (h : fG ns S 1 xs) (hl : ns.length ≤ S) (hsp : sp ≤ ns.length) : ∀ {l : List Nat} {a b : Nat}, Chain S st sp l (S + a) (S + b) → b ≤ sp →
  a ≤ b ∧ (∀ n ∈ l, 1 ≤ n ∧ n < 2 * S ∧ xs[n]? = some (.int (iy xs n))) ∧ (∀ v ∈ l.map (iy xs), ∃ i, a ≤ i ∧ i < b ∧ ns[i]? = some v) ∧ ∀ i c, a ≤ i → i < b → ns[i]? = some c → ∃ v ∈ l.map (iy xs), v ≤ c
 | [], a, b, hc, _ => by
  have hc : S + a = S + b := hc
  exact ⟨by omega, nofun, nofun, fun i c i1 i2 _ => by omega⟩
 | n :: r, a, b, hc, hb => by
  obtain ⟨e, e1, ⟨n1, n2, n3, _⟩, ch⟩ := hc
  have hp : 0 < 2 ^ e := Nat.two_pow_pos e
  have e5 : (n + 1) * 2 ^ e = S + (a + 2 ^ e) := by rw [Nat.succ_mul, e1]; omega
  rw [e5] at ch n3
  obtain ⟨i1, i2, i3, i4⟩ := fQ h hl hsp ch hb
  obtain ⟨M, m1, m2, m3⟩ := h.least hl e n a e1 (by omega) n1
  have ev := fB m1
  have hnl : n ≤ n * 2 ^ e := Nat.le_mul_of_pos_right _ hp
  refine ⟨by omega, fun k hk => ?_, fun v hv => ?_, fun i c j1 j2 ec => ?_⟩
  ·rcases List.mem_cons.mp hk with rfl | hk
   ·exact ⟨n1, by omega, by rw [ev]; exact m1⟩
   ·exact i2 k hk
  ·rw [List.map_cons] at hv
   rcases List.mem_cons.mp hv with rfl | hv
   ·obtain ⟨i, a1, a2, a3⟩ := m2
    exact ⟨i, a1, by omega, by rw [ev]; exact a3⟩
   ·obtain ⟨i, a1, a2, a3⟩ := i3 v hv
    exact ⟨i, by omega, a2, a3⟩
  ·rcases Nat.lt_or_ge i (a + 2 ^ e) with q | q
   ·exact ⟨M, by rw [List.map_cons, ev]; exact .head _, m3 i c j1 q ec⟩
   ·obtain ⟨v, v1, v2⟩ := i4 i c q j2 ec
    exact ⟨v, by rw [List.map_cons]; exact .tail _ v1, v2⟩
theorem zu {ns : List Int} {S st sp : Nat} {xs : List V} (h : fG ns S 1 xs) (hl : ns.length ≤ S) (hsp : sp ≤ ns.length) {l : List Nat} {a b : Nat} (hc : Chain S st sp l (S + a) (S + b)) (hb : b ≤ sp) {M : Int} (hM : qN M (l.map (iy xs))) : mQ ns a b M := by
 obtain ⟨_, _, h3, h4⟩ := fQ h hl hsp hc hb
 refine ⟨h3 M hM.1, fun i c i1 i2 e => ?_⟩
 obtain ⟨v, v1, v2⟩ := h4 i c i1 i2 e
 have := hM.2 v v1
 omega
theorem wL {S st sp h : Nat} (hS : S = 2 ^ h) (hsp : sp ≤ S) : ∀ (f e low high : Nat) (ls rs : List Nat), Cov S st sp e low high ls rs → high - low ≤ f → (sH f low high ls rs).length ≤ ls.length + rs.length + 2 * (h + 1 - e)
 | 0, e, low, high, ls, rs, c, hf => by
  show (ls ++ rs.reverse).length ≤ _
  rw [List.length_append, List.length_reverse]
  omega
 | f + 1, e, low, high, ls, rs, c, hf => by
  unfold sH
  have h0 : 1 ≤ S := by rw [hS]; exact Nat.one_le_two_pow
  by_cases q : low < high
  ·rw [if_pos q]
   have he : e < h + 1 := by
    rcases Nat.lt_or_ge e (h + 1) with z | z
    ·exact z
    ·exfalso
     have p1 : 2 ^ (h + 1) ≤ 2 ^ e := Nat.pow_le_pow_right (by decide) z
     rw [Nat.pow_succ] at p1
     have hl0 : 1 ≤ low := by
      rcases Nat.eq_zero_or_pos low with y | y
      ·have := c.lo1
       rw [y, Nat.zero_mul] at this
       omega
      ·exact y
     have : 2 * 2 ^ e ≤ high * 2 ^ e := Nat.mul_le_mul_right _ (by omega)
     have := c.hi1
     omega
   have := wL hS hsp f (e + 1) _ _ _ _ (c.step ⟨h, hS⟩ hsp h0 q) (by omega)
   have e1 : (if low % 2 = 1 then ls ++ [low] else ls).length ≤ ls.length + 1 := by split <;> simp
   have e2 : (if high % 2 = 1 then rs ++ [high - 1] else rs).length ≤ rs.length + 1 := by split <;> simp
   omega
  ·rw [if_neg q, List.length_append, List.length_reverse]
   omega
theorem z7 {S st sp h : Nat} (hS : S = 2 ^ h) (hst : st ≤ sp) (hsp : sp ≤ S) : (cover S st sp).length ≤ 2 * h + 2 := by
 have := wL hS hsp (sp - st) 0 (S + st) (S + sp) [] [] (.start hst) (by omega)
 simp only [List.length_nil] at this
 unfold cover
 omega
end Tw
set_option Elab.async false
set_option linter.all false
set_option maxRecDepth 100000
set_option maxHeartbeats 4000000
namespace Tw
open L2
theorem fG.kids {ns : List Int} {S : Nat} {xs : List V} (h : fG ns S 1 xs) (hl : ns.length ≤ S) {e m b : Nat} (h1 : m * 2 ^ (e + 1) = S + b) (h2 : b + 2 ^ (e + 1) ≤ ns.length) (h3 : 1 ≤ m) :
  ∃ M N, xs[2 * m]? = some (.int M) ∧ xs[2 * m + 1]? = some (.int N) ∧ mQ ns b (b + 2 ^ e) M ∧ mQ ns (b + 2 ^ e) (b + 2 ^ (e + 1)) N ∧ iy xs m = (if N < M then N else M) ∧ 2 * m * 2 ^ e = S + b ∧ (2 * m + 1) * 2 ^ e = S + (b + 2 ^ e) ∧ m < S := by
 have hp : 0 < 2 ^ e := Nat.two_pow_pos e
 have ep : 2 ^ (e + 1) = 2 * 2 ^ e := by rw [Nat.pow_succ, Nat.mul_comm]
 rw [ep] at h1 h2 ⊢
 have c1 : 2 * m * 2 ^ e = S + b := by rw [← h1, ← Nat.mul_assoc, Nat.mul_comm m 2]
 have c2 : (2 * m + 1) * 2 ^ e = S + (b + 2 ^ e) := by rw [Nat.add_mul, c1, Nat.one_mul]; omega
 have hn : m < S := by
  rcases Nat.lt_or_ge m S with z | z
  ·exact z
  ·exfalso
   have : S * (2 * 2 ^ e) ≤ m * (2 * 2 ^ e) := Nat.mul_le_mul_right _ z
   have : 2 * S ≤ S * (2 * 2 ^ e) := by
    rw [Nat.mul_comm 2 S]
    exact Nat.mul_le_mul_left _ (by omega)
   omega
 obtain ⟨M, e1, m1⟩ := h.least hl e (2 * m) b c1 (by omega) (by omega)
 obtain ⟨N, e2, m2⟩ := h.least hl e (2 * m + 1) (b + 2 ^ e) c2 (by omega) (by omega)
 obtain ⟨x, y, f1, f2, f3⟩ := h.node m h3 h3 hn
 rw [e1] at f1
 rw [e2] at f2
 cases f1
 cases f2
 refine ⟨M, N, e1, e2, m1, ?_, fB f3, c1, c2, hn⟩
 rw [show b + 2 * 2 ^ e = b + 2 ^ e + 2 ^ e from by omega]
 exact m2
def Hit (ns : List Int) (s x y : Nat) (g : Int) (i : Nat) : Prop := x ≤ i ∧ i < y ∧ (∃ c, ns[i]? = some c ∧ c ≤ g) ∧ ∀ j c, x ≤ j → j < y → (if s = 0 then j < i else i < j) → ns[j]? = some c → g < c
structure rZ (ns : List Int) (xs : List V) (S s x y : Nat) (g : Int) (e m b : Nat) : Prop where
 at_ : m * 2 ^ e = S + b
 lo : x ≤ b
 hi : b + 2 ^ e ≤ y
 one : 1 ≤ m
 low : iy xs m ≤ g
 out : ∀ j c, x ≤ j → j < y → (if s = 0 then j < b else b + 2 ^ e ≤ j) → ns[j]? = some c → g < c
theorem rZ.hit {ns : List Int} {xs : List V} {S s x y m b : Nat} {g : Int} (h : fG ns S 1 xs) (hl : ns.length ≤ S) (hy : y ≤ ns.length) (hs : s ≤ 1) (d : rZ ns xs S s x y g 0 m b) : m = S + b ∧ Hit ns s x y g b := by
 have h1 := d.at_
 have h2 := d.hi
 rw [Nat.pow_zero] at h1 h2
 obtain ⟨M, e1, ⟨i, i1, i2, i3⟩, _⟩ := h.least hl 0 m b d.at_ (by rw [Nat.pow_zero]; omega) d.one
 have ei : i = b := by rw [Nat.pow_zero] at i2; omega
 subst ei
 have hlow := d.low
 rw [fB e1] at hlow
 refine ⟨by omega, d.lo, by omega, ⟨M, i3, hlow⟩, fun j c j1 j2 j3 ec => d.out j c j1 j2 ?_ ec⟩
 split
 ·rename_i z
  rw [if_pos z] at j3
  exact j3
 ·rename_i z
  rw [if_neg z] at j3
  rw [Nat.pow_zero]
  omega
theorem rZ.step {ns : List Int} {xs : List V} {S s x y m b e : Nat} {g : Int} (h : fG ns S 1 xs) (hl : ns.length ≤ S) (hy : y ≤ ns.length) (hs : s ≤ 1) (d : rZ ns xs S s x y g (e + 1) m b) :
  ∃ v, xs[2 * m + s]? = some (.int v) ∧ m < S ∧ 2 * m + s < 2 * S ∧ (v ≤ g → ∃ b', rZ ns xs S s x y g e (2 * m + s) b') ∧ (g < v → ∃ b', rZ ns xs S s x y g e (2 * m + 1 - s) b') := by
 have hhi := d.hi
 have hlo := d.lo
 have hone := d.one
 have hp : 0 < 2 ^ e := Nat.two_pow_pos e
 have ep : 2 ^ (e + 1) = 2 * 2 ^ e := by rw [Nat.pow_succ, Nat.mul_comm]
 obtain ⟨M, N, e1, e2, m1, m2, ev, c1, c2, hm⟩ := h.kids hl d.at_ (by omega) hone
 have hlow := d.low
 rw [ev] at hlow
 have hout := d.out
 rw [ep] at hhi hout m2
 rcases (show s = 0 ∨ s = 1 by omega) with rfl | rfl
 ·refine ⟨M, e1, hm, by omega, fun hv => ⟨b, c1, hlo, by omega, by omega, by rw [Nat.add_zero, fB e1]; exact hv, fun j c j1 j2 j3 ec => hout j c j1 j2 j3 ec⟩, fun hv => ⟨b + 2 ^ e, c2, by omega, by omega, by omega, ?_, fun j c j1 j2 j3 ec => ?_⟩⟩
  ·show iy xs (2 * m + 1 - 0) ≤ g
   rw [Nat.sub_zero, fB e2]
   split at hlow <;> omega
  ·rw [if_pos rfl] at j3
   rcases Nat.lt_or_ge j b with z | z
   ·exact hout j c j1 j2 (by rw [if_pos rfl]; exact z) ec
   ·have := m1.2 j c z j3 ec
    omega
 ·refine ⟨N, e2, hm, by omega, fun hv => ⟨b + 2 ^ e, c2, by omega, by omega, by omega, by rw [fB e2]; exact hv, fun j c j1 j2 j3 ec => hout j c j1 j2 ?_ ec⟩, fun hv => ⟨b, ?_, hlo, by omega, by omega, ?_, fun j c j1 j2 j3 ec => ?_⟩⟩
  ·rw [if_neg (by decide)] at j3 ⊢
   omega
  ·rw [Nat.add_sub_cancel]
   exact c1
  ·rw [Nat.add_sub_cancel, fB e1]
   split at hlow <;> omega
  ·rw [if_neg (by decide)] at j3
   rcases Nat.lt_or_ge j (b + 2 * 2 ^ e) with z | z
   ·have := m2.2 j c j3 z ec
    omega
   ·exact hout j c j1 j2 (by rw [if_neg (by decide)]; exact z) ec
theorem rZ.start {ns : List Int} {xs : List V} {S s n a e : Nat} {g : Int} (h1 : n * 2 ^ e = S + a) (h2 : 1 ≤ n) (h3 : iy xs n ≤ g) : rZ ns xs S s a (a + 2 ^ e) g e n a :=
 ⟨h1, Nat.le_refl _, Nat.le_refl _, h2, h3, fun j c j1 j2 j3 _ => by split at j3 <;> omega⟩
theorem o9 {S st sp : Nat} : ∀ {l : List Nat} {x y : Nat} (k : Nat), Chain S st sp l x y → ∃ z, Chain S st sp (l.take k) x z ∧ Chain S st sp (l.drop k) z y
 | l, x, y, 0, h => ⟨x, rfl, h⟩
 | [], x, y, k + 1, h => ⟨x, rfl, h⟩
 | n :: r, x, y, k + 1, h => by
  obtain ⟨e, h1, h2, h3⟩ := h
  obtain ⟨z, z1, z2⟩ := o9 k h3
  exact ⟨z, ⟨e, h1, h2, z1⟩, z2⟩
theorem vA {S st sp : Nat} : ∀ {l : List Nat} {x y : Nat}, Chain S st sp l x y → x ≤ y
 | [], x, y, h => Nat.le_of_eq h
 | n :: r, x, y, h => by
  obtain ⟨e, h1, _, h3⟩ := h
  have := vA h3
  have : n * 2 ^ e ≤ (n + 1) * 2 ^ e := Nat.mul_le_mul_right _ (Nat.le_succ _)
  omega
end Tw
set_option Elab.async false
set_option linter.all false
set_option maxRecDepth 100000
set_option maxHeartbeats 4000000
namespace L2
open PySem PySem.Spec PyProof.Rows
section
variable {prog : Program} {w : World} {A : Around} {R : Result → Shared → Prop} {I S : Addr} {fp wr : List Addr} {P : Nat → Value → Prop} {St : Nat → Heap → Prop}
theorem BJ {n : Nat} (W : Walks prog w A.in1 I fp wr n P St) (hn : n = 0) (hSf : S ∉ fp) {s : Shared} {c : Nat} {d : Value} (st : St 0 s.heap) (hS : s.heap.get? S = some { cls := .type "list", data := .seq #[] c })
  (fin : ∀ g t, (∀ b o, b ∉ wr → b ≠ S → s.heap.get? b = some o → g.get? b = some o) → R (.ok (.ret d)) { s with heap := g, toks := t }) :
  codeAny (model prog w) A (.builtin "min.loop" ⟨[.ref I, .none, .ref S], [(Str.ofString "default", d)]⟩) R s := by
 subst hn
 have hSw : S ∉ wr := fun z => hSf (W.sub _ z)
 refine codeAny_builtin PySem.F.entry_min_loop ?_
 rw [Around.under_plainId PySem.F.plain_min_loop _]
 show wpAny _ A.in1 (seqItems? (.ref S) >>= _) _ _ s
 refine wpAny_bind (wpAny_seqItems hS rfl ?_)
 show wpAny _ A.in1 (tryCatch (pyNext (.ref I)) _ >>= _) _ _ s
 refine wpAny_bind (wpAny_tryCatch (W.done s _ _ st fun g t kk => ?_))
 refine wpAny_bind (wpAny_rule ?_)
 exact wpAny_pure (fin g t fun b o b1 _ q => kk b o b1 q)
end
section
variable {prog : Program} {w : World} {A : Around} {E : Value → Shared → Prop} {s : Shared} {l : Addr}
theorem lZ {d : Value} {zs : Array (Int × Tok)} {Q : Value → Shared → Prop} (hh : A.handled = none) (hl : s.heap.IsList l (intItems zs)) (h0 : zs.size = 0)
  (h : ∀ g t, (∀ b o, s.heap.get? b = some o → g.get? b = some o) → Q d { s with heap := g, toks := t }) :
  wpAny (model prog w) A (call (.builtin "min") [.ref l] [(Str.ofString "default", d)]) Q E s := by
 have nm : (toString "min" ++ toString ".loop" : String) = "min.loop" := by decide
 refine PyProof.Rows.kmk_tree PySem.F.kind_min PySem.F.plain_min PySem.F.entry_min (sZ _ _) ?_
 refine wpAny_bind (wpAny_of_eq (show Builtin.Builtins.bindParams "min" ["key", "default"] 0 ⟨[], [(Str.ofString "default", d)]⟩ = pure [none, some d] from rfl) ?_)
 refine wpAny_bind (wpAny_pure (wpAny_bind (iter_intList hl fun s2 e st hfp hlI => ?_)))
 subst e
 refine wpAny_bind (wpAny_newObj_type ?_)
 rw [nm]
 have hz : (intItems zs).size = zs.size := by simp [intItems]
 refine wpAny_pure ⟨plainId_quiet PySem.F.plain_min_loop _, BJ (Walks.list (A := A.in1) hh _ l hlI (intItems zs)) (by rw [hz]; exact h0) (fun z => Nat.lt_irrefl _ (hfp _ z))
  ⟨⟨_, Heap.get?_push_of_some _ (Heap.get?_push_size _ rfl), rfl, rfl⟩, (hl.push _).push _⟩ (Heap.get?_push_size _ rfl) fun g t k => ?_⟩
 refine h g t fun b o q => k b o ?_ ?_ (Heap.get?_push_of_some _ (Heap.get?_push_of_some _ q))
 ·exact fun z => absurd (Heap.lt_size q) (by rw [List.mem_singleton.mp z]; exact Nat.lt_irrefl _)
 ·refine Nat.ne_of_lt (Nat.lt_of_lt_of_le (Heap.lt_size q) ?_)
  rw [Heap.size_push]
  exact Nat.le_succ _
end
section
variable {X : Cx}
def FZ (K : PySem.W.Frag) (ta : TA) (td : TE) : TE := fun σ H Q => ta σ H fun vs H1 => td σ H1 fun x H2 => ∃ (p : Addr) (ns : List Int), vs = [.ref p] ∧ SqL K H2 p (ns.map V.int) ∧ ((ns = [] ∧ Q x H2) ∨ (0 < ns.length ∧ ∀ M, qN M ns → Q (.int M) H2))
theorem Cr {a d : Expr} {ta : TA} {td : TE} {p pos kpos : Pos} (hc : X.calm = true) (hg : Gl X "min") (hm : X.mg "min" = none) (ha : PA X [a] ta) (hd : PE X d td)
  (hv : bootBuiltins "min" = some (.builtin "min"))
  (he : backTo pos (starEach [a] X.env) = (false, eval a X.env) :: backTo pos (starEach [] X.env) := by rfl) (hpl : (backTo pos (starEach [a] X.env)).any (·.1) = false := by rfl)
  (hks : (backToKw pos (keywordEach [⟨some (Str.ofString "default"), d, kpos⟩] X.env)).filterMap (·.1) = [Str.ofString "default"] := by rfl)
  (hall : (backToKw pos (keywordEach [⟨some (Str.ofString "default"), d, kpos⟩] X.env)).all (·.1.isSome) = true := by rfl)
  (hkw : (backToKw pos (keywordEach [⟨some (Str.ofString "default"), d, kpos⟩] X.env)).any (·.1.isNone) = false := by rfl) :
  PE X (.Call (.Name "min" p) [a] [⟨some (Str.ofString "default"), d, kpos⟩] pos) (FZ X.K ta td) := by
 intro pins s σ H Q I h
 refine wpAny_Call_Name_kw (dC I hg hm hv ?_)
 refine PyProof.Rows.callWith_kw (thn (ha pos pins s σ H _ I h) fun us s1 ⟨vs, H1, I1, r1, q1⟩ => ?_) he hpl hall hkw
 show wpAny _ _ (evalAll ((do let v ← eval d X.env; standAt pos; pure v) :: [])) _ _ s1
 refine wpAny_evalAll_cons (wpAny_bind (thn (hd pins s1 σ H1 _ I1 q1) fun dv s2 ⟨x, H2, I2, rd, q2⟩ => wpAny_bind (wpAny_standAt (wpAny_pure (wpAny_evalAll_nil ?_)))))
 obtain ⟨b, ns, rfl, hq, q⟩ := q2
 obtain ⟨u, rfl, rx⟩ := vals1 r1
 cases rx
 rw [hks]
 obtain ⟨its, r', pl, hz⟩ := I2.list hq
 have hi := intsAre_of r'
 rcases q with ⟨rfl, q⟩ | ⟨hne, q⟩
 ·obtain ⟨qs, e⟩ := hi.allInts.items
  have e0 : its = [] := List.eq_nil_of_length_eq_zero (by rw [← r'.length]; rfl)
  have e1 : qs.size = 0 := by
   have hz : (intItems qs).size = qs.size := by simp [intItems]
   rw [← hz, ← e, e0]
   rfl
  refine lZ (zs := qs) (I.ok.hd hc) (by rw [← e]; exact pl.isList) e1 fun g t k => ?_
  exact ⟨x, H2, I2.kept (t' := t) k, rd, q⟩
 ·obtain ⟨qs, e⟩ := hi.allInts.items
  obtain ⟨hsz, hmn⟩ := qX hi e hne
  refine ie (zs := qs) (I.ok.hd hc) (by rw [← e]; exact pl.isList) hsz fun v g t hv k => ?_
  obtain ⟨t', rfl⟩ := intItems_at hv
  exact ⟨.int _, H2, I2.kept (t' := t) k, ⟨t', rfl⟩, q _ hmn⟩
end
end L2
namespace L2
open PySem PySem.Spec PyProof.Rows
section
variable {X : Cx}
end
end L2
set_option Elab.async false
set_option linter.all false
set_option maxRecDepth 100000
set_option maxHeartbeats 4000000
namespace Tw
def ahd (ns : List Int) (n : Nat) : List Int := (List.range (n + 1)).map fun k => (ns.take (32 * k)).sum
theorem gn (ns : List Int) (n : Nat) : (ahd ns n).length = n + 1 := by simp [ahd]
theorem lV {ns : List Int} {n k : Nat} (h : k ≤ n) : (ahd ns n)[k]? = some (ns.take (32 * k)).sum := by
 have : k < n + 1 := by omega
 simp [ahd, this]
def gF (bs : List Int) (k : Nat) : Int := ((bs.take k).map fun b => ones b 32).sum
theorem pA {bs : List Int} {k : Nat} {b : Int} (h : bs[k]? = some b) : gF bs (k + 1) = gF bs k + ones b 32 := by
 unfold gF
 rw [List.take_add_one, h]
 simp [List.sum_append]
def eG (bs : List Int) (n : Nat) : List Int := (List.range (n + 1)).map (gF bs)
theorem rW (bs : List Int) (n : Nat) : (eG bs n).length = n + 1 := by simp [eG]
theorem wY (bs : List Int) (n : Nat) : eG bs (n + 1) = eG bs n ++ [gF bs (n + 1)] := by
 unfold eG
 rw [List.range_succ, List.map_append]
 rfl
theorem vy (bs : List Int) (n : Nat) : eG bs n = (List.range n).map (gF bs) ++ [gF bs n] := by
 unfold eG
 rw [List.range_succ, List.map_append]
 rfl
theorem mD {ns : List Int} (h : bu ns) : ∀ k : Nat, k ≤ many ns.length → gF (cV ns) k = (ns.take (32 * k)).sum
 | 0, _ => by simp [gF]
 | k + 1, hk => by
  rw [pA (dD (by omega)), mD h k (by omega), jY h k 32 (by omega)]
  rfl
theorem uR {ns : List Int} (h : bu ns) : eG (cV ns) (cV ns).length = ahd ns (many ns.length) := by
 rw [fJ]
 unfold eG ahd
 refine List.map_congr_left fun k hk => ?_
 have := List.mem_range.mp hk
 exact mD h k (by omega)
def wide (n j : Nat) : Nat := min 32 (n - 32 * j)
def sY (ns : List Int) (j : Nat) (m : Int) : Prop := (∃ k, 32 * j < k ∧ k ≤ 32 * j + 32 ∧ k ≤ ns.length ∧ m = ht ns k) ∧ ∀ k, 32 * j < k → k ≤ 32 * j + 32 → k ≤ ns.length → m ≤ ht ns k
theorem sY.of {ns : List Int} (h : bu ns) {j : Nat} {M : Int} (hM : M ∈ nets (bK ns j) (wide ns.length j)) (hle : ∀ a ∈ nets (bK ns j) (wide ns.length j), M ≤ a) : sY ns j (ht ns (32 * j) + M) := by
 unfold wide at *
 constructor
 ·obtain ⟨k, k1, k2, rfl⟩ := wj.mp hM
  refine ⟨32 * j + k, by omega, by omega, by omega, ?_⟩
  rw [gW h j k (by omega)]
 ·intro k k1 k2 k3
  have := hle _ (wj.mpr ⟨k - 32 * j, by omega, by omega, rfl⟩)
  have e := gW h j (k - 32 * j) (by omega)
  rw [show 32 * j + (k - 32 * j) = k from by omega] at e
  omega
structure uy (ns ls : List Int) : Prop where
 len : ls.length = many ns.length
 low : ∀ j m, ls[j]? = some m → sY ns j m
def hts (ns : List Int) (n : Nat) : List Int := (List.range (n + 1)).map (ht ns)
theorem Tree.pos {ns : List Int} (t : Tree ns) {k : Nat} (h : k ≤ ns.length) : 0 ≤ ht ns k := by
 obtain ⟨t1, t2, t3⟩ := t
 rcases Nat.eq_zero_or_pos k with rfl | h0
 ·rw [dY]
  decide
 rcases Nat.lt_or_ge k ns.length with q | q
 ·have := t3 k h0 q
  omega
 ·have : k = ns.length := by omega
  rw [this, t2]
  decide
end Tw
set_option Elab.async false
set_option linter.all false
set_option maxRecDepth 100000
set_option maxHeartbeats 4000000
namespace Tw
def sJ (ns : List Int) (a b : Nat) (m : Int) : Prop := (∃ k, a < k ∧ k ≤ b ∧ m = ht ns k) ∧ ∀ k, a < k → k ≤ b → m ≤ ht ns k
theorem sJ.join2 {ns : List Int} {a b c : Nat} {m n : Int} (h : sJ ns a b m) (k : sJ ns b c n) (hab : a ≤ b) (hbc : b ≤ c) {M : Int} (hM : M = m ∨ M = n) (h1 : M ≤ m) (h2 : M ≤ n) : sJ ns a c M := by
 obtain ⟨⟨x, x1, x2, ex⟩, hx⟩ := h
 obtain ⟨⟨y, y1, y2, ey⟩, hy⟩ := k
 refine ⟨?_, fun z z1 z2 => ?_⟩
 ·rcases hM with e | e
  ·exact ⟨x, x1, by omega, by omega⟩
  ·exact ⟨y, by omega, y2, by omega⟩
 ·rcases Nat.lt_or_ge b z with q | q
  ·have := hy z q z2
   omega
  ·have := hx z z1 q
   omega
theorem uy.minH {ns ls : List Int} (h : uy ns ls) {i j : Nat} {m : Int} (hij : i < j) (hj : 32 * j ≤ ns.length) (h1 : ∃ t, i ≤ t ∧ t < j ∧ ls[t]? = some m) (h2 : ∀ t c, i ≤ t → t < j → ls[t]? = some c → m ≤ c) : sJ ns (32 * i) (32 * j) m := by
 constructor
 ·obtain ⟨t, t1, t2, e⟩ := h1
  obtain ⟨⟨k, k1, k2, k3, ek⟩, _⟩ := h.low t m e
  exact ⟨k, by omega, by omega, ek⟩
 ·intro k k1 k2
  have hl := h.len
  have ht : (k - 1) / 32 < ls.length := by
   rw [hl]
   unfold many
   omega
  have e := List.getElem?_eq_getElem ht
  have a1 := h2 ((k - 1) / 32) _ (by omega) (by omega) e
  have a2 := (h.low _ _ e).2 k (by omega) (by omega) (by omega)
  omega
def dz (ns : List Int) (a b : Nat) (g : Int) (k : Nat) : Prop := a < k ∧ k ≤ b ∧ ht ns k ≤ g ∧ ∀ i, a < i → i < k → g < ht ns i
def gK (ns : List Int) (a b : Nat) (g : Int) (k : Nat) : Prop := a < k ∧ k ≤ b ∧ ht ns k ≤ g ∧ ∀ i, k < i → i ≤ b → g < ht ns i
def cC (ns : List Int) (a b : Nat) (g : Int) : Prop := ∀ i, a < i → i ≤ b → g < ht ns i
theorem mR {ns : List Int} (h : bu ns) {j st sp k : Nat} {g : Int} (hsp : sp ≤ 32) : Due (bK ns j) st sp (g - ht ns (32 * j)) k ↔ st < k ∧ k ≤ sp ∧ ht ns (32 * j + k) ≤ g := by
 unfold Due
 constructor
 ·rintro ⟨a, b, c⟩
  have := gW h j k (by omega)
  exact ⟨a, b, by omega⟩
 ·rintro ⟨a, b, c⟩
  have := gW h j k (by omega)
  exact ⟨a, b, by omega⟩
theorem first_within {ns : List Int} (h : bu ns) {j st sp k : Nat} {g : Int} (hsp : sp ≤ 32) (hd : Due (bK ns j) st sp (g - ht ns (32 * j)) k) (hm : ∀ i, Due (bK ns j) st sp (g - ht ns (32 * j)) i → k ≤ i) : dz ns (32 * j + st) (32 * j + sp) g (32 * j + k) := by
 obtain ⟨a, b, c⟩ := (mR h hsp).mp hd
 refine ⟨by omega, by omega, c, fun i i1 i2 => ?_⟩
 rcases Int.lt_or_le g (ht ns i) with q | q
 ·exact q
 ·have := hm (i - 32 * j) ((mR h hsp).mpr ⟨by omega, by omega, by rw [show 32 * j + (i - 32 * j) = i from by omega]; exact q⟩)
  omega
theorem last_within {ns : List Int} (h : bu ns) {j st sp k : Nat} {g : Int} (hsp : sp ≤ 32) (hd : Due (bK ns j) st sp (g - ht ns (32 * j)) k) (hm : ∀ i, Due (bK ns j) st sp (g - ht ns (32 * j)) i → i ≤ k) : gK ns (32 * j + st) (32 * j + sp) g (32 * j + k) := by
 obtain ⟨a, b, c⟩ := (mR h hsp).mp hd
 refine ⟨by omega, by omega, c, fun i i1 i2 => ?_⟩
 rcases Int.lt_or_le g (ht ns i) with q | q
 ·exact q
 ·have := hm (i - 32 * j) ((mR h hsp).mpr ⟨by omega, by omega, by rw [show 32 * j + (i - 32 * j) = i from by omega]; exact q⟩)
  omega
theorem pF {ns : List Int} (h : bu ns) {j st sp : Nat} {g : Int} (hsp : sp ≤ 32) (hm : ∀ i, ¬ Due (bK ns j) st sp (g - ht ns (32 * j)) i) : cC ns (32 * j + st) (32 * j + sp) g := fun i i1 i2 => by
 rcases Int.lt_or_le g (ht ns i) with q | q
 ·exact q
 ·exact absurd ((mR h hsp).mpr ⟨by omega, by omega, by rw [show 32 * j + (i - 32 * j) = i from by omega]; exact q⟩) (hm (i - 32 * j))
theorem cC.join {ns : List Int} {a b c : Nat} {g : Int} (h : cC ns a b g) (k : cC ns b c g) : cC ns a c g := fun i i1 i2 => by
 rcases Nat.lt_or_ge b i with q | q
 ·exact k i q i2
 ·exact h i i1 q
theorem cC.empty {ns : List Int} {a b : Nat} {g : Int} (h : b ≤ a) : cC ns a b g := fun i i1 i2 => by omega
theorem uy.none {ns ls : List Int} (h : uy ns ls) {i j : Nat} {g : Int} (h2 : ∀ t c, i ≤ t → t < j → ls[t]? = some c → g < c) {b : Nat} (hb : b ≤ 32 * j) (hn : b ≤ ns.length) : cC ns (32 * i) b g := fun k k1 k2 => by
 have hl := h.len
 have ht : (k - 1) / 32 < ls.length := by
  rw [hl]
  unfold many
  omega
 have e := List.getElem?_eq_getElem ht
 have a1 := h2 ((k - 1) / 32) _ (by omega) (by omega) e
 have a2 := (h.low _ _ e).2 k (by omega) (by omega) (by omega)
 omega
theorem uy.some {ns ls : List Int} (h : uy ns ls) {t : Nat} {c g : Int} (e : ls[t]? = .some c) (hc : c ≤ g) : ¬ cC ns (32 * t) (min (32 * t + 32) ns.length) g := fun z => by
 obtain ⟨⟨k, k1, k2, k3, ek⟩, _⟩ := h.low t c e
 have := z k k1 (by omega)
 omega
theorem dz.after {ns : List Int} {a b c k : Nat} {g : Int} (h : cC ns a b g) (f : dz ns b c g k) (hab : a ≤ b) : dz ns a c g k := by
 obtain ⟨f1, f2, f3, f4⟩ := f
 refine ⟨by omega, f2, f3, fun i i1 i2 => ?_⟩
 rcases Nat.lt_or_ge b i with q | q
 ·exact f4 i q i2
 ·exact h i i1 q
theorem dz.wider {ns : List Int} {a b c k : Nat} {g : Int} (f : dz ns a b g k) (h : b ≤ c) : dz ns a c g k := ⟨f.1, by have := f.2.1; omega, f.2.2⟩
theorem gK.ahead {ns : List Int} {a b c k : Nat} {g : Int} (h : cC ns b c g) (f : gK ns a b g k) (hbc : b ≤ c) : gK ns a c g k := by
 obtain ⟨f1, f2, f3, f4⟩ := f
 refine ⟨f1, by omega, f3, fun i i1 i2 => ?_⟩
 rcases Nat.lt_or_ge b i with q | q
 ·exact h i q i2
 ·exact f4 i i1 q
theorem gK.wider {ns : List Int} {a a' b k : Nat} {g : Int} (f : gK ns a b g k) (h : a' ≤ a) : gK ns a' b g k := ⟨by have := f.1; omega, f.2⟩
def oZ (ns : List Int) (b : Nat) (g : Int) (k : Nat) : Prop := k < b ∧ ht ns k ≤ g ∧ ∀ i, k < i → i < b → g < ht ns i
def Bb (ns : List Int) (b : Nat) (g : Int) : Prop := ∀ i, i < b → g < ht ns i
theorem yg {ns : List Int} (h : bu ns) {k : Nat} (hk : k < ns.length) : (ns[k]? = some 1 ∧ ht ns (k + 1) = ht ns k + 1) ∨ (ns[k]? = some 0 ∧ ht ns (k + 1) = ht ns k - 1) := by
 have e := List.getElem?_eq_getElem hk
 rcases h _ (List.getElem_mem hk) with z | z
 ·right
  rw [z] at e
  exact ⟨e, by rw [dB e]; omega⟩
 ·left
  rw [z] at e
  exact ⟨e, by rw [dB e]; omega⟩
end Tw
set_option Elab.async false
set_option linter.all false
set_option maxRecDepth 100000
set_option maxHeartbeats 4000000
namespace L2
open PySem PySem.Spec PyProof.Rows
structure uC (X : Cx) (x z : Str) (caps : List (Str × Nat)) (scope : Scope) (cl : List (Str × Addr)) : Prop where
 o : dg X x caps scope cl
 hz : scope.names.lookup z = some .local
 nd : (x :: z :: caps.map (·.1)).Nodup
section
variable {X : Cx} {pins : List (Addr × Obj)} {σ : St} {H : Hp} {s : Shared}
theorem Inv.comp2 {x z : Str} {caps : List (Str × Nat)} {scope : Scope} {cl : List (Str × Addr)} {fp : List Addr} {h' : Heap} {tk : Nat} {m : Str → Option Value} {D C : Addr} (I : Inv X pins σ H s) (K0 : uC X x z caps scope cl) (hf : ∀ b ∈ fp, iB X pins H b)
    (hfs : ∀ b ∈ fp, b < s.heap.objs.size) (hD : s.heap.objs.size ≤ D) (hC : s.heap.objs.size ≤ C) (hDC : D ≠ C) (hk : ∀ b o, s.heap.get? b = some o → h'.get? b = some o) (hn : h'.Ns C m) (hL : h'.get? D = some { cls := .type "list", data := .seq #[] }) :
    Inv (bF X (x :: z :: caps.map (·.1)) scope cl C s H fp) [] (none :: none :: fK caps σ) (upd H D (.lst [])) { s with heap := h', toks := tk } := by
  have hnD := I.hok.fresh hD
  have hnC := I.hok.fresh hC
  have lkc : ∀ y c, (bF X (x :: z :: caps.map (·.1)) scope cl C s H fp).env.cells.lookup y = some c → X.env.cells.lookup y = some c := fun y c e => K0.o.cls y c e
  have clt : ∀ y c, X.env.cells.lookup y = some c → c < s.heap.objs.size := fun y c e => by
    obtain ⟨v, q⟩ := I.cell y c e
    exact q.lt
  have up : ∀ b u, H b = some u → upd H D (.lst []) b = some u := fun b u q => by rw [aH (aJ q hnD)]; exact q
  have ok : (bF X (x :: z :: caps.map (·.1)) scope cl C s H fp).Ok := by
    refine ⟨I.ok.mod, K0.o.kind, I.ok.glob, I.ok.blt, hC, fun y z c h1 h2 => I.ok.inj y z c (lkc y c h1) (lkc z c h2), fun y hy => K0.o.has y hy, fun y c h => absurd (show false = true from h) Bool.false_ne_true, I.ok.hd, I.ok.frames, .inl rfl, fun b hb => ?_, I.bs, Nat.le_trans I.ok.bsz I.sz, fun b o e hb => ?_, fun b hb hz => ?_, I.stack, I.stkFree⟩
    · obtain ⟨f0, f1, f2, f3, f4, f5⟩ := hf b hb
      exact ⟨Nat.ne_of_lt (Nat.lt_of_lt_of_le (hfs b hb) hC), fun y c e => f4 y c (lkc y c e)⟩
    · obtain ⟨f0, f1, f2, f3, f4, f5⟩ := hf b hb
      rcases f3 with z | z
      · exact I.ok.noex b o e z
      · exact absurd (Nat.lt_of_lt_of_le (Nat.lt_of_lt_of_le (Heap.lt_size e) I.ok.bsz) z) (Nat.lt_irrefl _)
    · obtain ⟨f0, f1, f2, f3, f4, f5⟩ := hf b hb
      rcases List.mem_cons.mp (I.stkSub b hz) with z | z
      · exact f1 z
      · exact f2 z
  refine ⟨ok, rfl, I.bare, ?_, ⟨m, hn, fun i y v e1 e2 e3 => ?_⟩, fun y c e => ?_, ?_, fun y c e => ?_, fun p hp => absurd (show p ∈ ([] : List (Addr × Obj)) from hp) (by simp), ?_, ?_⟩
  · exact Un.laid hk hD hnD
  · cases i with
    | zero => cases e2
    | succ i =>
     cases i with
     | zero => cases e2
     | succ i =>
      have e1' : (caps.map (·.1))[i]? = some y := e1
      have e2' : (fK caps σ)[i]? = some (some v) := e2
      rw [List.getElem?_map] at e1'
      unfold fK at e2'
      rw [List.getElem?_map] at e2'
      cases ec : caps[i]? with
      | none => rw [ec] at e1'; cases e1'
      | some p =>
        rw [ec] at e1' e2'
        obtain ⟨y', j⟩ := p
        have ey : y' = y := Option.some.inj e1'
        subst ey
        have ev : (σ[j]?).getD none = some v := Option.some.inj e2'
        have ev' : σ[j]? = some (some v) := by
          cases q : σ[j]? with
          | none => rw [q] at ev; cases ev
          | some w => rw [q] at ev; exact congrArg some ev
        obtain ⟨c1, c2, c3⟩ := K0.o.cap y' j (List.mem_of_getElem? ec)
        obtain ⟨m0, hn0, hl⟩ := I.loc
        obtain ⟨u, r, l⟩ := hl j y' v c1 ev' (by rcases c2 with z | z; exact .inr (.inl z); exact .inr (.inr z))
        refine ⟨u, r, .inr ⟨c3, ?_⟩⟩
        rcases l with ⟨k, _⟩ | ⟨k, c, ec, z⟩
        · have k' : X.env.scope.names.lookup y' = some .local := k
          rcases c2 with z | z
          · rw [z] at k'; cases k'
          · rw [z] at k'; cases k'
        · obtain ⟨c', hc'⟩ := K0.o.has y' c3
          have e4 := K0.o.cls y' c' hc'
          rw [ec] at e4
          cases e4
          obtain ⟨o, ho, hd⟩ := z
          exact ⟨c, hc', o, hk _ _ ho, hd⟩
  · obtain ⟨v, o, ho, hd⟩ := I.cell y c (lkc y c e)
    exact ⟨v, o, hk _ _ ho, hd⟩
  · show upd H D (.lst []) C = none
    rw [aH (Ne.symm hDC)]
    exact hnC
  · have hlt := clt y c (lkc y c e)
    rw [aH (Nat.ne_of_lt (Nat.lt_of_lt_of_le hlt hD))]
    exact I.freeC y c (lkc y c e)
  · exact I.hok.laid hk hD ⟨Nat.zero_le _, [], _, .nil, hL⟩
  · show (none :: none :: fK caps σ).length = (x :: z :: caps.map (·.1)).length
    simp [pC]
def uP (K : PySem.W.Frag) (J : It) (cap : St) (te : TE) (Qf : Addr → Hp → Prop) (H : Hp) : Prop :=
 ∀ D, H D = none → ∃ W : Nat → Nat → List V → Hp → Prop, (∃ m, W 0 m [] (upd H D (.lst []))) ∧ ∀ i m ys H1, W i m ys H1 →
  (J.stop i H1 ∧ Qf D H1) ∨ (J.go i H1 ∧ ∀ v H2, J.yld i H1 v H2 → ∃ ta v1 v2, v = .ref ta ∧ SqT K H2 ta [v1, v2] ∧
   te (some v1 :: some v2 :: cap) H2 fun y H4 => H4 D = some (.lst ys) ∧ ys.length < sizeLine ∧ ∃ m', m' < m ∧ W (i + 1) m' (ys ++ [y]) (upd H4 D (.lst (ys ++ [y]))))
theorem yF {x z : Str} {px pz tp pos : Pos} {tx : Nat} {caps : List (Str × Nat)} {scope : Scope} {cl : List (Str × Addr)} {elt iter : Expr} {J : It} {fp : List Addr} {it : Addr} {tn : Nat → Heap → Prop} {te : TE} {Qf : Addr → Hp → Prop}
  {RR : Value → Addr → Result → Shared → Prop} {E : Value → Shared → Prop} (I : Inv X pins σ H s) (hc : X.calm = true) (K0 : uC X x z caps scope cl) (T : Turn X.prog X.w X.K (.Tuple [.Name x px, .Name z pz] tx tp) J fp it tn) (st : tn 0 s.heap) (hf : ∀ b ∈ fp, iB X pins H b)
  (he : ∀ C s1 H1 fp1, PE (bF X (x :: z :: caps.map (·.1)) scope cl C s1 H1 fp1) elt te) (rd : uP X.K J (fK caps σ) te Qf H)
  (hRR : ∀ D C s' H' m, Inv X pins σ H' s' → s'.heap.Ns C m → iB X pins H' C → Qf D H' → RR (.ref D) C (.ok .next) s') :
  wpAny (model X.prog X.w) X.A (newList []) (fun acc s3 => wpAny (model X.prog X.w) X.A (newFunctionEnv scope X.env.globals cl [] X.env.qual none .none (some X.env)) (fun cenv s4 =>
   codeAny (model X.prog X.w) X.A (.compStart (.ListComp elt [⟨.Tuple [.Name x px, .Name z pz] tx tp, iter, [], 0⟩] scope pos) 0 (.ref it) acc { cenv with scope := relabel scope X.env }) (RR acc cenv.locals) s4) E s3) E s := by
 have hfs : ∀ b ∈ fp, b < s.heap.objs.size := fun b hb => by
  obtain ⟨o, e, _⟩ := T.obj _ _ st b hb
  exact Heap.lt_size e
 refine wpAny_newObj_type (wpAny_newFunctionEnv K0.o.nocell (by intro y hy; simp at hy) (fun h1 hn1 hb1 => ?_) K0.o.kind)
 dsimp only at hn1 hb1 ⊢
 obtain ⟨D, eD⟩ : ∃ D : Nat, D = s.heap.objs.size := ⟨_, rfl⟩
 obtain ⟨H2, eH2⟩ : ∃ g, g = s.heap.push { cls := .type "list", dict := none, data := .seq ([] : List Value).toArray } := ⟨_, rfl⟩
 rw [← eH2] at hn1 hb1 ⊢
 rw [← eD]
 have hC : H2.objs.size = D + 1 := by rw [eH2, Heap.size_push, eD]
 have hle : s.heap.objs.size ≤ H2.objs.size := by rw [hC, eD]; exact Nat.le_succ _
 have hDC : D ≠ H2.objs.size := by rw [hC]; exact Nat.ne_of_lt (Nat.lt_succ_self _)
 have hk : ∀ b o, s.heap.get? b = some o → h1.get? b = some o := fun b o e => by
  refine hb1.extBut b o (Nat.ne_of_lt (Nat.lt_of_lt_of_le (Heap.lt_size e) hle)) (Heap.get?_push_of_some _ ?_)
  rw [eH2]
  exact Heap.get?_push_of_some _ e
 have hL : h1.get? D = some { cls := .type "list", data := .seq #[] } := by
  refine hb1.extBut D _ (by omega) (Heap.get?_push_of_some _ ?_)
  rw [eH2, eD]
  exact Heap.get?_push_size _ rfl
 have st1 : tn 0 h1 := T.keep _ _ _ st fun b _ o e => hk b o e
 obtain ⟨W, ⟨m0, w0⟩, turn⟩ := rd D (I.hok.fresh (by omega))
 have loop : codeAny (model X.prog X.w) X.A (.compLoop (.ListComp elt [⟨.Tuple [.Name x px, .Name z pz] tx tp, iter, [], 0⟩] scope pos) 0 (.ref it) (.ref D) (compEnvC scope cl H2.objs.size X.env)) (RR (.ref D) H2.objs.size) { s with heap := h1, toks := s.toks + ([] : List (Str × Value)).length } := by
  refine LCp.codeAny_compLoop_pair (fun n s' => ∃ i ys sl sm H', Inv (bF X (x :: z :: caps.map (·.1)) scope cl H2.objs.size s H fp) [] (sl :: sm :: fK caps σ) H' s' ∧ tn i s'.heap ∧ (∀ b ∈ fp, H' b = none) ∧ W i n ys H') ?_ m0
   ⟨0, [], none, none, _, I.comp2 K0 hf hfs (by omega) (by omega) hDC hk hn1 hL, st1, fun b hb => ?_, w0⟩
  ·rintro n s3 ⟨i, ys, sl, sm, H3, I3, st3, fr3, w3⟩
   have fpc : ∀ {H' : Hp} {pi : List (Addr × Obj)}, (∀ b ∈ fp, H' b = none) → (∀ p ∈ pi, p.1 ∉ fp) → ∀ b ∈ fp, iB (bF X (x :: z :: caps.map (·.1)) scope cl H2.objs.size s H fp) pi H' b := fun {H' pi} hn hp b hb => by
    obtain ⟨f0, f1, f2, f3, f4, f5⟩ := hf b hb
    refine ⟨hn b hb, ?_, fun z => ?_, .inl hb, fun y c e => f4 y c (K0.o.cls y c e), fun p hpp z => ?_⟩
    ·exact Nat.ne_of_lt (Nat.lt_of_lt_of_le (hfs b hb) hle)
    ·rcases List.mem_cons.mp (I.stkSub b z) with q | q
     ·exact f1 q
     ·exact f2 q
    ·exact hp p (by simpa [bF] using hpp) (by rw [z]; exact hb)
   have clear : ∀ {α : Type} {t : Sem α} {Q : α → Shared → Prop} {E' : Value → Shared → Prop} {s : Shared}, wpAny (model X.prog X.w) X.A t Q (fun _ _ => False) s → wpAny (model X.prog X.w) X.A t Q E' s := fun h => wpAny_mono h (fun _ _ z => z) fun _ _ z => z.elim
   rcases turn i n ys H3 w3 with ⟨stop, qf⟩ | ⟨go, step⟩
   ·refine thn (T.done (bF X (x :: z :: caps.map (·.1)) scope cl H2.objs.size s H fp) rfl rfl rfl hc i [] s3 _ H3 _ I3 (fpc fr3 (by simp)) st3 stop) fun r s4 ⟨hr, I4⟩ => ?_
    subst hr
    obtain ⟨m4, hn4, _⟩ := id I4.loc
    refine hRR D _ s4 H3 m4 (I.comped hf I4) hn4 ?_ qf
    have gC : s.heap.objs.size ≤ H2.objs.size := by omega
    exact I.fpOk gC I4.free
   ·refine clear (thn (T.item (bF X (x :: z :: caps.map (·.1)) scope cl H2.objs.size s H fp) rfl rfl rfl hc i [] s3 _ H3 (fun _ _ => False) I3 (fpc fr3 (by simp)) st3 go) fun r s4 ⟨u, hr, h4⟩ => ?_)
    subst hr
    refine clear (thn h4 fun _ s5 ⟨v, H5, I5, r5, y5, st5, fr5⟩ => ?_)
    have I5' := I5.pinned (fpc fr5 (by simp)) (T.obj _ _ st5)
    obtain ⟨ta, v1, v2, ev, ht5, q6⟩ := step v _ y5
    subst ev
    have hg : PG (bF X (x :: z :: caps.map (·.1)) scope cl H2.objs.size s H fp) (.Tuple [.Name x px, .Name z pz] tx tp) (GK X.K 2 (Bc (qj 0) (Bc (qj 1) Hb))) :=
     ju hc (bQ (bw (i := 0) K0.nd rfl (Or.inl (lookup_relabel_local K0.o.hx)) (Or.inr (lookup_relabel_local K0.o.hx))) (bQ (bw (i := 1) K0.nd rfl (Or.inl (lookup_relabel_local K0.hz)) (Or.inr (lookup_relabel_local K0.hz))) gr))
    refine clear (thn (hg _ s5 (sl :: sm :: fK caps σ) H5 (.ref ta) u (fun σ2 H2 => σ2 = some v1 :: some v2 :: fK caps σ ∧ H2 = H5) I5' r5 ⟨ta, [v1, v2], rfl, ht5, rfl, v1, [v2], rfl, v2, [], rfl, rfl, (show _ ∧ _ from ⟨rfl, rfl⟩)⟩) fun _ s6 ⟨σ6, H6, I6, e6, e7⟩ => ?_)
    subst e6 e7
    have again : ∀ {H7 : Hp} {s7 : Shared} {sl sm : Option V} {zs : List V} {m' : Nat}, Inv (bF X (x :: z :: caps.map (·.1)) scope cl H2.objs.size s H fp) ([] ++ oU fp s5.heap) (sl :: sm :: fK caps σ) H7 s7 → m' < n → W (i + 1) m' zs H7 →
      ∃ m, m < n ∧ ∃ i ys sl sm H', Inv (bF X (x :: z :: caps.map (·.1)) scope cl H2.objs.size s H fp) [] (sl :: sm :: fK caps σ) H' s7 ∧ tn i s7.heap ∧ (∀ b ∈ fp, H' b = none) ∧ W i m ys H' := fun {H7 s7 sl sm zs m'} I7 hm w7 => by
     refine ⟨m', hm, i + 1, zs, sl, sm, H7, I7.unpinned, T.keep _ _ _ st5 fun b hb o e => (I7.pin (b, o) (List.mem_append_right _ (List.mem_append_right _ (dU hb e)))).1, fun b hb => ?_, w7⟩
     obtain ⟨o, e, d⟩ := T.obj _ _ st5 b hb
     exact (I7.pin (b, o) (List.mem_append_right _ (List.mem_append_right _ (dU hb e)))).2.1
    refine clear (thn (he H2.objs.size s H fp _ s6 _ H6 _ I6 q6) fun xv s8 ⟨y, H8, I8, r8, hD8, hz8, m', hm, w8⟩ => ?_)
    refine clear (thn (bT _ s8 _ H8 (.ref D) [y] (.ref D) [xv] (fun _ H9 => H9 = upd H8 D (.lst (ys ++ [y]))) I8 rfl (.cons r8 .nil) ⟨D, ys, y, rfl, rfl, hD8, hz8, rfl⟩) fun _ s9 ⟨_, H9, I9, _, e9⟩ => ?_)
    subst e9
    exact again I9 hm w8
  ·rw [aH (by rw [eD]; exact Nat.ne_of_lt (hfs b hb))]
   exact (hf b hb).1
 exact codeAny_compStart_list loop (T.self _ 0 _ _ _ st1 loop)
def Gg (K : PySem.W.Frag) (wi : TI) (caps : List (Str × Nat)) (te : TE) : TE := fun σ H Q => wi σ H fun J H1 => uP K J (fK caps σ) te (fun D H' => Q (.ref D) H') H1
theorem vC {i : Nat} {y x z : Str} {px pz tp py pos spos : Pos} {tx : Nat} {caps : List (Str × Nat)} {scope : Scope} {cl : List (Str × Addr)} {elt iter : Expr} {wi : TI} {te : TE} (hN : X.N.Nodup) (hiN : X.N[i]? = some y) (hy : X.env.scope.names.lookup y = some .local) (hc : X.calm = true)
  (K0 : uC X x z caps scope cl) (hi : PI X (.Tuple [.Name x px, .Name z pz] tx tp) iter wi)
  (he : ∀ C s1 H1 fp1, PE (bF X (x :: z :: caps.map (·.1)) scope cl C s1 H1 fp1) elt te)
  (hsw : swapsWith (.ListComp elt [⟨.Tuple [.Name x px, .Name z pz] tx tp, iter, [], 0⟩] scope pos) (some (.Name y py)) spos.line X.env = pure true := by rfl) (hs : ∀ x, foldedSetIterable iter X.env x = pure x := by intro _; rfl) :
  PS X (.Assign [.Name y py] (.ListComp elt [⟨.Tuple [.Name x px, .Name z pz] tx tp, iter, [], 0⟩] scope pos) spos) (Dd (Gg X.K wi caps te) (qj i)) := by
 intro pins s σ H D0 I h
 rw [exec_Assign_Name_used _ _ _ _ hsw]
 refine wpAny_bind (wpAny_standAt (wpAny_bind ?_))
 show wpAny _ X.A (do let _ ← comprehension (.ListComp elt [⟨.Tuple [.Name x px, .Name z pz] tx tp, iter, [], 0⟩] scope pos) scope X.env _ (newList []) false (eval iter X.env) (some (assign (.Name y py) X.env))) _ _ s
 refine wpAny_bind (wpAny_mono (wpAny_comprehension_free (use := some (assign (.Name y py) X.env)) (Q := fun _ s' => SP X pins D0 .next s') rfl hs K0.o.clos K0.o.kind K0.o.names
  (thn (hi pins s σ H _ I h) fun v s1 h1 => thn h1 fun itv s2 h2 => ?_)) (fun _ s' hq => wpAny_pure (wpAny_pure hq)) fun _ _ e => e)
 obtain ⟨it, fp, tn, J, H2, e, I2, T, st2, f2, rd⟩ := h2
 subst e
 refine yF (RR := fun acc C => compPost (model X.prog X.w) X.A X.xe (some (assign (.Name y py) X.env)) (fun _ s' => SP X pins D0 .next s') acc C) I2 hc K0 T st2 f2 he rd ?_
 intro D C s' H' m I' hn fC q
 show wpAny _ X.A (assign (.Name y py) X.env (.ref D)) _ _ _
 refine wpAny_assign_Name (nM (v := .ref D) I' hN hiN (.inl hy) rfl (fun s'' I'' ch => ⟨m, ?_, fun h'' hs'' => ?_⟩) (.inr hy))
 ·obtain ⟨a, sb, ha⟩ := ch
  refine hn.sameBut sb fun z => ?_
  rcases ha with ha | ha
  ·exact fC.2.1 (z.trans ha)
  ·exact fC.2.2.2.2.1 _ a ha z.symm
 ·exact ⟨_, H', I''.turned (h' := h'') (t' := s''.toks) (fun b o hb e => hs''.extBut b o hb e) fC.1 fC.2.1 fC.2.2.2.1 fC.2.2.2.2.1 fC.2.2.2.2.2, q⟩
end
section
variable {X : Cx} {x : Str} {scope : Scope}
end
end L2
namespace Tw
open PySem L2
theorem yC {K : PySem.W.Frag} {a : Addr} {ns : List Int} {cap : L2.St} {te : TE} {Qf : Addr → Hp → Prop} {H : Hp} (R : Nat → Int → Prop) (hS : SqL K H a (ns.map V.int)) (hl : ns.length < sizeLine)
  (hte : ∀ (i : Nat) (b : Int) (H' : Hp) (Q : VK), ns[i]? = some b → aY H H' → (∀ m H2, R i m → aY H' H2 → Q (.int m) H2) → te (some (.int (i : Int)) :: some (.int b) :: cap) H' Q)
  (q : ∀ D H' (ls : List Int), H D = none → aY H H' → H' D = some (.lst (ls.map V.int)) → ls.length = ns.length → (∀ i m, ls[i]? = some m → R i m) → Qf D H') : uP K (Ite K a) cap te Qf H := by
 intro D hD
 refine ⟨fun i m ys H1 => m = ns.length - i ∧ i ≤ ns.length ∧ aY H H1 ∧ H1 D = some (.lst ys) ∧ ∃ ls : List Int, ys = ls.map V.int ∧ ls.length = i ∧ ∀ i m, ls[i]? = some m → R i m, ⟨_, rfl, Nat.zero_le _, aA hD _, au, [], rfl, rfl, fun i m e => by cases e⟩, ?_⟩
 rintro i m ys H1 ⟨rfl, hi, sm, hD1, ls, rfl, hll, hR⟩
 have hS1 := sm.seq hS
 by_cases hlt : i < ns.length
 ·have hb : ns[i]? = some ns[i] := List.getElem?_eq_getElem hlt
  have hg : (ns.map V.int)[i]? = some (.int ns[i]) := by
   rw [List.getElem?_map, hb]
   rfl
  refine .inr ⟨⟨_, _, hS1, hg⟩, fun v H2 y => ?_⟩
  obtain ⟨p, y, hp, rfl, rfl, e⟩ := y
  have e := e _ hS1
  rw [hg] at e
  cases e
  have s2 := aA hp (.tup [.int (i : Int), .int ns[i]])
  refine ⟨p, _, _, rfl, SqT.of au, ?_⟩
  refine hte i ns[i] _ _ hb (sm.trans s2) fun m H2 hm s3 => ⟨s3 _ _ (s2 _ _ hD1), ?_, ns.length - (i + 1), by omega, rfl, hlt, ?_, au, ls ++ [m], ?_, ?_, ?_⟩
  ·rw [List.length_map]
   omega
  ·exact bL (sm.trans (s2.trans s3)) hD _
  ·rw [List.map_append]
   rfl
  ·rw [List.length_append, hll]
   rfl
  ·intro j n e
   rcases Nat.lt_or_ge j ls.length with c | c
   ·rw [List.getElem?_append_left c] at e
    exact hR j n e
   ·rw [List.getElem?_append_right c] at e
    have : j - ls.length = 0 := by
     have := (List.getElem?_eq_some_iff.mp e).1
     simp at this
     omega
    rw [this] at e
    cases e
    have : j = i := by omega
    subst this
    exact hm
 ·have e : i = ns.length := by omega
  exact .inl ⟨⟨_, hS1, by rw [List.length_map, e]; exact Nat.le_refl _⟩, q D H1 ls hD sm hD1 (by omega) hR⟩
theorem zy {K : PySem.W.Frag} {a : Addr} {ns : List Int} {cap : L2.St} {tt : TT} {te : TE} {Qf : Addr → Hp → Prop} {H : Hp} (g : Int → Int) (hS : SqL K H a (ns.map V.int)) (hl : ns.length < sizeLine)
  (htt : ∀ (z : Int) (H' : Hp) (Q : Bool → Hp → Prop), Q true H' → tt (some (.int z) :: cap) H' Q) (hte : ∀ (z : Int) (H' : Hp) (Q : VK), z ∈ ns → aY H H' → Q (.int (g z)) H' → te (some (.int z) :: cap) H' Q)
  (q : ∀ D, H D = none → Qf D (upd H D (.lst ((ns.map g).map V.int)))) : qR (Itl K a) cap tt te Qf H := by
 intro D hD
 refine ⟨fun i m ys H1 => m = ns.length - i ∧ i ≤ ns.length ∧ ys = ((ns.take i).map g).map V.int ∧ H1 = upd H D (.lst ys), ⟨_, rfl, Nat.zero_le _, rfl, rfl⟩, ?_⟩
 rintro i m ys H1 ⟨rfl, hi, rfl, rfl⟩
 have hS1 : SqL K (upd H D (.lst (((ns.take i).map g).map V.int))) a (ns.map V.int) := (aA hD _).seq hS
 by_cases hlt : i < ns.length
 ·have hg : (ns.map V.int)[i]? = some (.int ns[i]) := by
   rw [List.getElem?_map, List.getElem?_eq_getElem hlt]
   rfl
  refine .inr ⟨⟨_, _, hS1, hg⟩, fun v H2 y => ?_⟩
  obtain ⟨rfl, y⟩ := y
  have e := y _ hS1
  rw [hg] at e
  cases e
  refine htt _ _ _ ?_
  rw [if_pos rfl]
  refine hte _ _ _ (List.getElem_mem hlt) (aA hD _) ⟨au, ?_, ns.length - (i + 1), by omega, rfl, hlt, ?_, ?_⟩
  ·rw [List.length_map, List.length_map, List.length_take]
   omega
  ·rw [List.take_add_one, List.getElem?_eq_getElem hlt, List.map_append, List.map_append]
   rfl
  ·rw [yQ]
 ·have e : i = ns.length := by omega
  subst e
  rw [List.take_length]
  rw [List.take_length] at hS1
  exact .inl ⟨⟨_, hS1, by rw [List.length_map]; exact Nat.le_refl _⟩, q D hD⟩
end Tw
set_option Elab.async false
set_option linter.all false
set_option maxRecDepth 100000
set_option maxHeartbeats 4000000
namespace L2
open PySem PySem.Spec PyProof.Rows PySem.W
structure rz where
 qual : Str
 params : Arguments
 body : Expr
 scope : Scope
 ps : List Str
 xs : List Str
def lamOf (st : Stmt) (qual : Str) (ps xs : List Str) : rz := match st with
 | .Return (some (.Lambda a b sc _)) _ => ⟨qual, a, b, sc, ps, xs⟩
 | _ => ⟨qual, defArgs st, .Name "" ⟨0, 0, 0, 0⟩, defScope st, ps, xs⟩
def gh : Stmt → Pos
 | .Return (some (.Lambda _ _ _ p)) _ => p
 | _ => ⟨0, 0, 0, 0⟩
structure jG (H : Hp) (f : Addr) (c : rz) (cs : List Addr) (fvs : List V) : Prop where
 ex : ∃ (cd : Addr) (pm ctv : Value) (oc : Obj) (vs : Array Value) (t : Tok), H f = some (aO f (kla_obj "<lambda>" c.qual c.params c.body c.scope (c.xs.zip cs) pm cd ctv)) ∧ H cd = some (aO cd oc) ∧ oc.data = .fields vs ∧ vs[1]? = some (.str c.qual t)
 cells : ∀ (i : Nat) (a : Addr), cs[i]? = some a → ∃ (co : Obj) (v : V) (u : Value), fvs[i]? = some v ∧ H a = some (aO a co) ∧ co.data = .cell (some u) ∧ RelV v u
 nd : cs.Nodup
 len : cs.length = c.xs.length
 lenV : fvs.length = c.xs.length
theorem jG.same {H H' : Hp} {f : Addr} {c : rz} {cs : List Addr} {fvs : List V} (h : jG H f c cs fvs) (s : ∀ b o, H b = some (aO b o) → H' b = some (aO b o)) : jG H' f c cs fvs := by
 obtain ⟨⟨cd, pm, ctv, oc, vs, t, h1, h2, h3, h4⟩, hc, nd, len, lenV⟩ := h
 refine ⟨⟨cd, pm, ctv, oc, vs, t, s _ _ h1, s _ _ h2, h3, h4⟩, fun i a e => ?_, nd, len, lenV⟩
 obtain ⟨co, v, u, e1, e2, e3⟩ := hc i a e
 exact ⟨co, v, u, e1, s _ _ e2, e3⟩
structure qD (N : List Str) (c : rz) : Prop where
 kind : c.scope.kind = .function
 co : c.scope.isCoroutine = false
 gen : c.scope.isGenerator = false
 nocell : ∀ x ∈ c.scope.names, x.2 ≠ .cell
 pre : N.take (c.ps.length + c.xs.length) = c.ps ++ c.xs
 nd : N.Nodup
 par : ∀ n ∈ c.ps, c.scope.names.lookup n = some .local
 fr : ∀ x ∈ c.scope.names, x.2 = .free → x.1 ∈ c.xs
 frn : ∀ n ∈ c.xs, c.scope.names.lookup n ≠ some .local
section
variable {P : Program} {w : World} {K : PySem.W.Frag} {mg : Str → Option Value} {base : Heap} {A : Around} {outer : List Env} {s : Shared} {H : Hp} {f : Addr} {c : rz} {cs : List Addr} {fvs vs : List V} {us : List Value} {N : List Str} {k : Nat} {Q : VK} {E : XK}
theorem Dn (S : qD N c) (hr : dF (k + 1) A) (e0 : xm P w K mg base A outer s H) (ca : jG H f c cs fvs) (hb : ∀ (cl : List (Str × Addr)) (pm cd ctv : Value), bindArgs (kla_fn "<lambda>" c.qual c.params c.body c.scope cl pm cd ctv) ⟨us, []⟩ = pure (c.ps.zip us)) (r : Vals vs us) (hl : vs.length = c.ps.length)
  (body : ∀ cd : Addr, dF k (A.deeper (envX c.qual c.scope s.heap.objs.size f (.ref cd) (c.xs.zip cs))) → ∃ t, PE (pB P w K mg base N c.qual c.scope f (.ref cd) (c.xs.zip cs) A outer s (hide H cs)) c.body t ∧ t (start N (vs ++ fvs)) (hide H cs) fun v H' => Q v (over H cs H')) :
  codeAny (model P w) A (.call (.ref f) ⟨us, []⟩) (CR CX0 outer P w H s Q E) s := by
 obtain ⟨⟨cd, pm, ctv, oc, ws, tk, h1, h2, h3, h4⟩, hc, nd, len, lenV⟩ := ca
 have hx : ∀ a ∈ cs, ∃ o, H a = some (aO a o) := fun a ha => by
  obtain ⟨i, hi⟩ := List.getElem?_of_mem ha
  obtain ⟨co, v, u, _, e, _⟩ := hc i a hi
  exact ⟨co, e⟩
 have lim : s.heap.NoLimit := e0.mod.nolimit.keeps fun b o e => (e0.bs b o e).1
 have ndP : c.ps.Nodup := by
  have : c.ps.Sublist N := by
   have h5 : (c.ps ++ c.xs).Sublist N := by rw [← S.pre]; exact List.take_sublist _ _
   exact (List.sublist_append_left _ _).trans h5
  exact S.nd.sublist this
 have ndX : c.xs.Nodup := by
  have : c.xs.Sublist N := by
   have h5 : (c.ps ++ c.xs).Sublist N := by rw [← S.pre]; exact List.take_sublist _ _
   exact (List.sublist_append_right _ _).trans h5
  exact S.nd.sublist this
 have hpl : c.ps.length + c.xs.length ≤ N.length := by
  have := congrArg List.length S.pre
  rw [List.length_take, List.length_append] at this
  omega
 refine kla_callFunE hr.depth (cP e0.hok h1) rfl S.co S.gen rfl ⟨cd, oc, ws, tk, rfl, cP e0.hok h2, h3, h4⟩ ?_
 rw [hb]
 refine wpAny_pure (wpAny_newFunctionEnv S.nocell (fun y hy => S.par _ (List.of_mem_zip hy).1) (fun h0 hns hsb => ⟨lim.fresh _ hsb, ?_⟩) S.kind)
 show codeAny _ _ (.expr c.body (envX c.qual c.scope s.heap.objs.size f (.ref cd) (c.xs.zip cs))) _ _
 have hk : ∀ b o, s.heap.get? b = some o → h0.get? b = some o := fun b o e => hsb.extBut b o (Nat.ne_of_lt (Heap.lt_size e)) (Heap.get?_push_of_some _ e)
 refine kla_codeExpr ?_
 obtain ⟨t, ht, hq⟩ := body cd (hr.deeper _)
 have hok0 := yV e0.hok hx
 have I : Inv (pB P w K mg base N c.qual c.scope f (.ref cd) (c.xs.zip cs) A outer s (hide H cs)) [] (start N (vs ++ fvs)) (hide H cs) { s with heap := h0, toks := s.toks + (c.ps.zip us).length } := by
  refine ⟨⟨e0.mod, S.kind, rfl, rfl, Nat.le_refl _, fun y z b h5 h6 => ?_, fun y hy => ?_, fun y b h5 _ => absurd h5 Bool.false_ne_true, fun _ => hr.hd, Around.frames_deeper e0.frames, .inr ⟨rfl, rfl⟩, fun b z => absurd (show b ∈ ([] : List Addr) from z) (by simp), fun b o e => ⟨(e0.bs b o e).1, ?_⟩, e0.bsz, fun b _ _ z => absurd (show b ∈ ([] : List Addr) from z) (by simp), fun b z => absurd (show b ∈ ([] : List Addr) from z) (by simp), e0.funs, fun b hb' => ?_⟩,
   rfl, e0.bare, Un.kept hk, ⟨_, hns, fun i y v h5 h6 h7 => ?_⟩, fun y b h5 => ?_, hok0.fresh (Nat.le_refl _), fun y b h5 => ?_, fun p hp => absurd (show p ∈ ([] : List (Addr × Obj)) from hp) (by simp), hok0.kept hk, ?_⟩
  ·obtain ⟨i, i1, i2⟩ := cM h5
   obtain ⟨j, j1, j2⟩ := cM h6
   have := (List.getElem?_inj (List.getElem?_eq_some_iff.mp i2).1 nd).mp (i2.trans j2.symm)
   subst this
   exact Option.some.inj (i1.symm.trans j1)
  ·have hy : c.scope.names.lookup y = some .cell ∨ c.scope.names.lookup y = some .free := hy
   rcases hy with hy | hy
   ·exact absurd rfl (S.nocell _ (PySem.mem_of_lookup hy))
   ·exact uV len (S.fr _ (PySem.mem_of_lookup hy) rfl)
  ·have n := (e0.bs b o e).2
   show hide H cs b = none
   rw [bR]
   ·exact n
   ·intro z
    obtain ⟨o', e'⟩ := hx b z
    rw [n] at e'
    cases e'
  ·have n := e0.frf b hb'
   show hide H cs b = none
   rw [bR]
   ·exact n
   ·intro z
    obtain ⟨o', e'⟩ := hx b z
    rw [n] at e'
    cases e'
  ·have hi : i < (vs ++ fvs).length := by
    unfold start at h6
    by_cases hi : i < (vs ++ fvs).length
    ·exact hi
    ·rw [List.getElem?_append_right (by simpa using hi)] at h6
     rw [List.getElem?_replicate] at h6
     split at h6 <;> cases h6
   have ha : (vs ++ fvs)[i]? = some v := by
    unfold start at h6
    rw [List.getElem?_append_left (by simpa using hi), List.getElem?_map] at h6
    cases e : (vs ++ fvs)[i]? with
    | none => rw [e] at h6; cases h6
    | some a => rw [e] at h6; cases h6; rfl
   rw [List.length_append] at hi
   have hp : (c.ps ++ c.xs)[i]? = some y := by
    rw [← S.pre, List.getElem?_take_of_lt (by omega)]
    exact h5
   by_cases hi2 : i < vs.length
   ·rw [List.getElem?_append_left hi2] at ha
    rw [List.getElem?_append_left (by omega)] at hp
    obtain ⟨u, hu, rv⟩ := r.get ha
    exact ⟨u, rv, .inl ⟨S.par y (List.mem_of_getElem? hp), zj ndP hp hu⟩⟩
   ·rw [List.getElem?_append_right (by omega)] at ha
    rw [List.getElem?_append_right (by omega), ← hl] at hp
    have hj : i - vs.length < cs.length := by
     have := (List.getElem?_eq_some_iff.mp hp).1
     omega
    obtain ⟨b, hb5⟩ : ∃ b, cs[i - vs.length]? = some b := ⟨_, List.getElem?_eq_getElem hj⟩
    obtain ⟨co, v', u, q1, q2, q3, q4⟩ := hc _ b hb5
    rw [ha] at q1
    cases q1
    have hfree : c.scope.names.lookup y = some .free := by
     rcases h7 with q | q | q
     ·exact absurd q (S.frn y (List.mem_of_getElem? hp))
     ·exact absurd rfl (S.nocell _ (PySem.mem_of_lookup q))
     ·exact q
    exact ⟨u, q4, .inr ⟨.inr hfree, b, xN ndX hp hb5, co, hk _ _ (cP e0.hok q2), q3⟩⟩
  ·obtain ⟨i, i1, i2⟩ := cM h5
   obtain ⟨co, v', u, q1, q2, q3, q4⟩ := hc _ b i2
   exact ⟨_, co, hk _ _ (cP e0.hok q2), q3⟩
  ·obtain ⟨i, i1, i2⟩ := cM h5
   exact mF (List.mem_of_getElem? i2)
  ·unfold start
   show _ = N.length
   rw [List.length_append, List.length_map, List.length_replicate, List.length_append]
   omega
 have fin : ∀ {s' : Shared} {σ' : St} {H' : Hp} {v : V} {u : Value}, Inv (pB P w K mg base N c.qual c.scope f (.ref cd) (c.xs.zip cs) A outer s (hide H cs)) [] σ' H' s' → RelV v u → Q v (over H cs H') → CE outer P w H s Q u s' := fun {s' σ' H' v u} J rv q => by
  obtain ⟨k1, k2⟩ := yU e0.hok J.hok hx e0.frf J.base
  exact ⟨v, over H cs H', J.os, J.bare, k2, k1, rv, q⟩
 refine wpAny_mono (ht [] _ (start N (vs ++ fvs)) (hide H cs) _ I hq) (fun u s' hs => ?_) fun e s' hs => False.elim hs
 obtain ⟨v, H', J, rv, q⟩ := hs
 exact fin J rv q
end
section
variable {X : Cx} {pins : List (Addr × Obj)} {σ : St} {H : Hp} {s : Shared} {c P : Addr} {name qual : Str} {params : Arguments} {body : Expr} {scope : Scope} {clos : List (Str × Addr)} {pos : Pos} {n : Nat}
theorem Bl {M : Model} {A : Around} {E : Value → Shared → Prop} {Q : Value → Shared → Prop} (I : Inv X pins σ H s) (bm : BMain X.mg X.base) (hcode : X.env.code = .ref c) (C : CodeHd X.base c P) (hT : TabAt H P pos qual) (hcl : closureFor scope X.env = pure clos)
  (h : ∀ (fi cd : Addr) (pm ctv : Value) (oc : Obj) (vs : Array Value) (t : Tok) (H1 : Hp) (s1 : Shared), Inv X pins σ H1 s1 → H fi = none → (∀ b o, H b = some o → b ≠ P → H1 b = some o) → TabAt H1 P pos qual →
   H1 fi = some (aO fi (kla_obj name qual params body scope clos pm cd ctv)) → H1 cd = some (aO cd oc) → oc.data = .fields vs → vs[1]? = some (.str qual t) → Q (.ref fi) s1) :
  wpAny M A (makeFunction name qual params (.expr body) scope X.env [] [] [] pos n) Q E s := by
 obtain ⟨ps, hP, htr, hcase⟩ := hT
 have hPs : s.heap.get? P = some (tabObj ps) := I.hok P _ hP
 have G := I.mod.glob.keeps I.bk
 obtain ⟨bm, ob, b1, b2, b3, b4, b5, b6⟩ := bm
 have b3' := I.bk _ _ b3
 have hgP : mainGlobals ≠ P := fun q => by
  obtain ⟨o, es, ep, e, hd, _⟩ := G
  rw [q, hPs] at e; cases e; cases hd
 have hbP : bm ≠ P := fun q => by
  rw [q, hPs] at b3'; cases b3'; cases b4
 have hbG : bm ≠ mainGlobals := fun q => by
  obtain ⟨o, es, ep, e, hd, _⟩ := G
  rw [q, e] at b3'; cases b3'; rw [hd] at b6; cases b6
 have hbu : s.heap.BuiltinsAt X.mg P := ⟨bm, ob, b1, b2, hbG, hbP, b3', b4, b5, b6⟩
 rcases hcase with hnf | ⟨cd, oc, vs, t, hf, hcd, hd, hv⟩
 ·refine kla_makeFunction (mg := X.mg) hcl I.ok.glob G hcode (C.keeps I.bk) hPs htr hnf hgP hbu fun c' ctv h' tk hx hge hlt hrec htb => ?_
  obtain ⟨c2, oc, vs, t, e2, hoc, hd, hv⟩ := hrec
  cases e2
  have nc : H c' = none := I.hok.fresh hge
  have nf : H h'.objs.size = none := I.hok.fresh (Nat.le_trans hge (Nat.le_of_lt hlt))
  have nPc : P ≠ c' := aJ hP nc
  have nPf : P ≠ h'.objs.size := aJ hP nf
  have ncf : c' ≠ h'.objs.size := Nat.ne_of_lt hlt
  have k1 : ∀ b, b ≠ P → b ≠ c' → b ≠ h'.objs.size → upd (upd (upd H P (.tbl (ps ++ #[rawInt pos.line, rawInt pos.col, .ref c']))) c' (aO c' oc)) h'.objs.size (aO h'.objs.size (kla_obj name qual params body scope clos ((X.mg "__name__").getD .none) c' ctv)) b = H b := fun b e1 e2 e3 => by
   rw [aH e3, aH e2, aH e1]
  have kS : ∀ b o, H b = some o → b ≠ P → upd (upd (upd H P (.tbl (ps ++ #[rawInt pos.line, rawInt pos.col, .ref c']))) c' (aO c' oc)) h'.objs.size (aO h'.objs.size (kla_obj name qual params body scope clos ((X.mg "__name__").getD .none) c' ctv)) b = some o := fun b o e n => by
   rw [k1 b n (aJ e nc) (aJ e nf)]
   exact e
  have kP : upd (upd (upd H P (.tbl (ps ++ #[rawInt pos.line, rawInt pos.col, .ref c']))) c' (aO c' oc)) h'.objs.size (aO h'.objs.size (kla_obj name qual params body scope clos ((X.mg "__name__").getD .none) c' ctv)) P = some (.tbl (ps ++ #[rawInt pos.line, rawInt pos.col, .ref c'])) := by
   rw [aH nPf, aH nPc, au]
  have kc : upd (upd (upd H P (.tbl (ps ++ #[rawInt pos.line, rawInt pos.col, .ref c']))) c' (aO c' oc)) h'.objs.size (aO h'.objs.size (kla_obj name qual params body scope clos ((X.mg "__name__").getD .none) c' ctv)) c' = some (aO c' oc) := by
   rw [aH ncf, au]
  have kf : upd (upd (upd H P (.tbl (ps ++ #[rawInt pos.line, rawInt pos.col, .ref c']))) c' (aO c' oc)) h'.objs.size (aO h'.objs.size (kla_obj name qual params body scope clos ((X.mg "__name__").getD .none) c' ctv)) h'.objs.size = some (aO h'.objs.size (kla_obj name qual params body scope clos ((X.mg "__name__").getD .none) c' ctv)) := au
  generalize upd (upd (upd H P (.tbl (ps ++ #[rawInt pos.line, rawInt pos.col, .ref c']))) c' (aO c' oc)) h'.objs.size (aO h'.objs.size (kla_obj name qual params body scope clos ((X.mg "__name__").getD .none) c' ctv)) = H1 at *
  have old : ∀ b o, s.heap.get? b = some o → b ≠ P → (h'.push (kla_obj name qual params body scope clos ((X.mg "__name__").getD .none) c' ctv)).get? b = some o := fun b o e n => Heap.get?_push_of_some _ (hx b o n e)
  have tabP : (h'.push (kla_obj name qual params body scope clos ((X.mg "__name__").getD .none) c' ctv)).get? P = some (tabObj (ps ++ #[rawInt pos.line, rawInt pos.col, .ref c'])) := Heap.get?_push_of_some _ htb
  have hl : (ps ++ #[rawInt pos.line, rawInt pos.col, .ref c']).toList = ps.toList ++ [rawInt pos.line, rawInt pos.col, .ref c'] := by simp
  refine h h'.objs.size c' _ ctv oc vs t H1 _ (I.call' (ch := []) rfl ⟨fun b o e n hb hx' => ?_, fun b o e n hb hx' => ?_, fun b o e n hx' => ?_, fun b o e hx' => ?_, fun b xs e => ?_, fun b o u e => ?_, fun b qs e => ?_⟩ (fun b u e => ?_) I.bare fun b z => absurd z (by simp)) nf kS ⟨_, kP, by rw [hl]; exact TriplesOk_snoc _ _ _ _ htr, .inr ⟨c', oc, vs, t, by rw [hl]; exact codeAmong_snoc _ htr hnf, kc, hd, hv⟩⟩ kf kc hd hv
  ·exact old b o e fun z => by rw [z, hP] at n; cases n
  ·exact ⟨o.slots, old b o e fun z => by rw [z, hP] at n; cases n⟩
  ·rw [k1 b (fun z => by rw [z, hP] at n; cases n) (Nat.ne_of_lt (Nat.lt_of_lt_of_le (Heap.lt_size e) hge)) (Nat.ne_of_lt (Nat.lt_of_lt_of_le (Heap.lt_size e) (Nat.le_trans hge (Nat.le_of_lt hlt))))]
   exact n
  ·by_cases z : b = P
   ·exact ⟨_, by rw [z]; exact tabP⟩
   ·exact ⟨o, old b o e z⟩
  ·exact kS b _ e fun z => by rw [z, hP] at e; cases e
  ·exact kS b _ e fun z => by rw [z, hP] at e; cases e
  ·by_cases z : b = P
   ·rw [z, hP] at e
    cases e
    exact ⟨_, by rw [z]; exact kP⟩
   ·exact ⟨#[], by rw [kS b _ e z]; simp⟩
  ·by_cases z1 : b = h'.objs.size
   ·rw [z1, kf] at e
    cases e
    rw [z1]
    exact dJ (Heap.get?_push_size _ rfl)
   by_cases z2 : b = c'
   ·rw [z2, kc] at e
    cases e
    rw [z2]
    exact dJ (Heap.get?_push_of_some _ hoc)
   by_cases z3 : b = P
   ·rw [z3, kP] at e
    cases e
    rw [z3]
    exact tabP
   rw [k1 b z3 z2 z1] at e
   refine (I.hok b u e).stay (fun d o hd' q => old d o q ?_) (fun d q => kS d _ q ?_) fun d xs q => kS d _ q ?_
   ·rcases hd' with rfl | hd'
    ·exact z3
    ·exact fun z => by rw [z, hP] at hd'; cases hd'
   ·exact fun z => by rw [z, hP] at q; cases q
   ·exact fun z => by rw [z, hP] at q; cases q
 ·refine kla_makeFunctionHit (mg := X.mg) hcl I.ok.glob G hcode (C.keeps I.bk) hPs htr hf hbu fun ctv h' tk hk hsz => ?_
  have nf : H h'.objs.size = none := I.hok.fresh hsz
  have kS : ∀ b o, H b = some o → upd H h'.objs.size (aO h'.objs.size (kla_obj name qual params body scope clos ((X.mg "__name__").getD .none) cd ctv)) b = some o := fun b o e => by
   rw [aH (aJ e nf)]
   exact e
  have old : ∀ b o, s.heap.get? b = some o → (h'.push (kla_obj name qual params body scope clos ((X.mg "__name__").getD .none) cd ctv)).get? b = some o := fun b o e => Heap.get?_push_of_some _ (hk b o e)
  refine h h'.objs.size cd _ ctv oc vs t _ _ (I.call' (ch := []) rfl (Un.laid old hsz nf) (fun b u e => ?_) I.bare fun b z => absurd z (by simp)) nf (fun b o e _ => kS b o e) ⟨ps, kS _ _ hP, htr, .inr ⟨cd, oc, vs, t, hf, kS _ _ hcd, hd, hv⟩⟩ au (kS _ _ hcd) hd hv
  by_cases z1 : b = h'.objs.size
  ·rw [z1, au] at e
   cases e
   rw [z1]
   exact dJ (Heap.get?_push_size _ rfl)
  rw [aH z1] at e
  exact (I.hok b u e).stay (fun d o _ q => old d o q) (fun d q => kS d _ q) fun d xs q => kS d _ q
end
section
variable {CX : CXT} {P : Program} {w : World} {K : PySem.W.Frag} {mg : Str → Option Value} {base : Heap} {N : List Str} {qual : Str} {scope : Scope} {f c Pt : Addr} {A : Around} {outer : List Env} {s0 s : Shared} {H0 H : Hp} {E : XK} {σ : St} {Q : VK}
theorem Dw {T : rz} {cs : List Addr} {fvs : List V} {pos p2 : Pos} (I : Inv (fO CX P w K mg base N qual scope f (.ref c) A outer s0 H0 E) [] σ H s) (bm : BMain mg base) (C : CodeHd base c Pt) (hT : TabAt H Pt pos T.qual)
  (hq : (envOfC qual scope s0.heap.objs.size f (.ref c)).qual ++ "<lambda>" = T.qual)
  (hcl : closureFor T.scope (envOfC qual scope s0.heap.objs.size f (.ref c)) = pure (T.xs.zip cs)) (hd0 : defaultsOf T.params (envOfC qual scope s0.heap.objs.size f (.ref c)) = ([], []))
  (hndC : cs.Nodup) (hlen : cs.length = T.xs.length) (hlenV : fvs.length = T.xs.length)
  (hfv : ∀ (j : Nat) (a : Addr), cs[j]? = some a → ∃ (x : Str) (m : Nat) (v : V), (envOfC qual scope s0.heap.objs.size f (.ref c)).cells.lookup x = some a ∧ scope.names.lookup x = some .cell ∧ N[m]? = some x ∧ σ[m]? = some (some v) ∧ fvs[j]? = some v)
  (hQ : ∀ (fi : Addr) (H2 : Hp), H fi = none → (∀ a ∈ cs, H a = none) → (∀ b o, H b = some o → b ≠ Pt → H2 b = some o) → TabAt H2 Pt pos T.qual → jG H2 fi T cs fvs → Q (.ref fi) H2) :
  wpAny (model P w) (A.deeper (envOfC qual scope s0.heap.objs.size f (.ref c))) (execs [.Return (some (.Lambda T.params T.body T.scope pos)) p2] (envOfC qual scope s0.heap.objs.size f (.ref c)))
   (fun fl s' => ∃ u, fl = .ret u ∧ CE outer P w H0 s0 Q u s') (fO CX P w K mg base N qual scope f (.ref c) A outer s0 H0 E).xe s := by
 refine wpAny_execs_cons (wpAny_Return_some (kla_eval hd0 ?_))
 rw [hq]
 refine Bl (X := fO CX P w K mg base N qual scope f (.ref c) A outer s0 H0 E) (n := pos.line) I bm rfl C hT hcl fun fi cd pm ctv oc vs t H1 s1 I1 nfi keep hT1 hf1 hc1 hd hv => ?_
 refine ⟨.ref fi, rfl, .ref fi, fun b => if b ∈ cs then (s1.heap.get? b).map (aO b) else H1 b, I1.os, I1.bare, ?_, ?_, rfl, ?_⟩
 all_goals
  have cellsOf : ∀ a ∈ cs, ∃ x, (envOfC qual scope s0.heap.objs.size f (.ref c)).cells.lookup x = some a := fun a ha' => by
   obtain ⟨j, hj⟩ := List.getElem?_of_mem ha'
   obtain ⟨x, m, v, h1, _⟩ := hfv j a hj
   exact ⟨x, h1⟩
  have fresh : ∀ a ∈ cs, s0.heap.objs.size ≤ a := fun a ha' => by
   obtain ⟨x, hx⟩ := cellsOf a ha'
   exact I1.ok.cab x a rfl hx
  have gone : ∀ a ∈ cs, H1 a = none := fun a ha' => by
   obtain ⟨x, hx⟩ := cellsOf a ha'
   exact I1.freeC x a hx
  have out : ∀ b o, H1 b = some o → b ∉ cs := fun b o e z => by
   rw [gone b z] at e
   cases e
 ·have U : Un (frs outer) [] H0 H1 s0.heap s1.heap := I1.base
  refine ⟨U.keep, U.slot, fun b o e n hx' => ?_, U.there, fun b xs e => ?_, fun b o v e => ?_, fun b ps e => ?_⟩
  ·show (if b ∈ cs then _ else H1 b) = none
   rw [if_neg (fun z => absurd (Nat.lt_of_lt_of_le (Heap.lt_size e) (fresh b z)) (Nat.lt_irrefl _))]
   exact U.free b o e n hx'
  ·have e1 := U.tups b xs e
   show (if b ∈ cs then _ else H1 b) = _
   rw [if_neg (out b _ e1)]
   exact e1
  ·have e1 := U.frzs b o v e
   show (if b ∈ cs then _ else H1 b) = _
   rw [if_neg (out b _ e1)]
   exact e1
  ·obtain ⟨more, e1⟩ := U.tbls b ps e
   refine ⟨more, ?_⟩
   show (if b ∈ cs then _ else H1 b) = _
   rw [if_neg (out b _ e1)]
   exact e1
 ·intro b u' e
  have e : (if b ∈ cs then (s1.heap.get? b).map (aO b) else H1 b) = some u' := e
  by_cases hb : b ∈ cs
  ·rw [if_pos hb] at e
   cases q : s1.heap.get? b with
   | none => rw [q] at e; cases e
   | some o =>
    rw [q] at e
    cases e
    exact dJ q
  ·rw [if_neg hb] at e
   refine (I1.hok b u' e).stay (fun _ _ _ q => q) (fun d q => ?_) fun d xs q => ?_
   ·show (if d ∈ cs then _ else H1 d) = _
    rw [if_neg (out d _ q)]
    exact q
   ·show (if d ∈ cs then _ else H1 d) = _
    rw [if_neg (out d _ q)]
    exact q
 ·have kp : ∀ b o, H1 b = some o → (fun b => if b ∈ cs then (s1.heap.get? b).map (aO b) else H1 b) b = some o := fun b o e => by
   show (if b ∈ cs then _ else H1 b) = _
   rw [if_neg (out b _ e)]
   exact e
  refine hQ fi _ nfi (fun a ha' => ?_) (fun b o e n => kp b o (keep b o e n)) ?_ ⟨⟨cd, pm, ctv, oc, vs, t, kp _ _ hf1, kp _ _ hc1, hd, hv⟩, fun j a hj => ?_, hndC, hlen, hlenV⟩
  ·obtain ⟨x, hx⟩ := cellsOf a ha'
   exact I.freeC x a hx
  ·obtain ⟨ps, e1, e2, e3⟩ := hT1
   refine ⟨ps, kp _ _ e1, e2, ?_⟩
   rcases e3 with e3 | ⟨cd', oc', vs', t', e4, e5, e6⟩
   ·exact .inl e3
   ·exact .inr ⟨cd', oc', vs', t', e4, kp _ _ e5, e6⟩
  ·obtain ⟨x, m, v, h1, h2, h3, h4, h5⟩ := hfv j a hj
   obtain ⟨mm, _, hl⟩ := I1.loc
   obtain ⟨u', r', l⟩ := hl m x v h3 h4 (.inr (.inl h2))
   have l' : ∃ c', (envOfC qual scope s0.heap.objs.size f (.ref c)).cells.lookup x = some c' ∧ s1.heap.IsCell c' (some u') := by
    rcases l with ⟨l1, _⟩ | ⟨_, l2⟩
    ·have l1 : scope.names.lookup x = some .local := l1
     rw [h2] at l1
     cases l1
    ·exact l2
   obtain ⟨c', l1, co, l2, l3⟩ := l'
   rw [h1] at l1
   cases l1
   refine ⟨co, v, u', h5, ?_, l3, r'⟩
   show (if a ∈ cs then (s1.heap.get? a).map (aO a) else H1 a) = _
   rw [if_pos (List.mem_of_getElem? hj), l2]
   rfl
end
structure Cm (N : List Str) (qual : Str) (scope : Scope) (T : rz) (slots : List Nat) (csF : Addr → List Addr) : Prop where
 qn : ∀ (L f : Addr) (c : Value), (envOfC qual scope L f c).qual ++ "<lambda>" = T.qual
 cl : ∀ (L f : Addr) (c : Value), closureFor T.scope (envOfC qual scope L f c) = pure (T.xs.zip (csF L))
 d0 : ∀ (L f : Addr) (c : Value), defaultsOf T.params (envOfC qual scope L f c) = ([], [])
 ndC : ∀ L : Addr, (csF L).Nodup
 len : ∀ L : Addr, (csF L).length = T.xs.length
 fv : ∀ (L f : Addr) (c : Value) (j : Nat) (a : Addr), (csF L)[j]? = some a → ∃ (x : Str) (m : Nat), (envOfC qual scope L f c).cells.lookup x = some a ∧ scope.names.lookup x = some .cell ∧ N[m]? = some x ∧ slots[j]? = some m
def DX (H : Hp) (Pt : Addr) (pos : Pos) (T : rz) (slots : List Nat) (σ : St) (Q : VK) : Prop :=
 TabAt H Pt pos T.qual ∧ ∃ fvs : List V, (∀ j m : Nat, slots[j]? = some m → ∃ v, σ[m]? = some (some v) ∧ fvs[j]? = some v) ∧ fvs.length = T.xs.length ∧
  ∀ (fi : Addr) (cs : List Addr) (H2 : Hp), H fi = none → (∀ a ∈ cs, H a = none) → (∀ b o, H b = some o → b ≠ Pt → H2 b = some o) → TabAt H2 Pt pos T.qual → jG H2 fi T cs fvs → Q (.ref fi) H2
section
variable {P : Program} {w : World} {K : PySem.W.Frag} {mg : Str → Option Value} {base : Heap} {x qual : Str} {st : Stmt} {f c Pt : Addr} {fd : FuncData} {N ps : List Str} {k i : Nat} {sp : Sp} {T : rz} {slots : List Nat} {csF : Addr → List Addr} {pos p1 p2 : Pos}
theorem Ay {A : Around} {outer : List Env} {s s1 : Shared} {H H1 : Hp} {Q : VK} {E : XK} {σ : St} (M : Cm N qual (defScope st) T slots csF) (bm : BMain mg base) (C : CodeHd base c Pt) (I : Inv (fO CX0 P w K mg base N qual (defScope st) f (.ref c) A outer s H E) [] σ H1 s1) (h : DX H1 Pt pos T slots σ Q) :
  wpAny (model P w) (A.deeper (envOfC qual (defScope st) s.heap.objs.size f (.ref c))) (execs [.Return (some (.Lambda T.params T.body T.scope pos)) p2] (envOfC qual (defScope st) s.heap.objs.size f (.ref c)))
   (fun fl s' => ∃ u, fl = .ret u ∧ CE outer P w H s Q u s') (fO CX0 P w K mg base N qual (defScope st) f (.ref c) A outer s H E).xe s1 := by
 obtain ⟨hT, fvs, h1, h2, h3⟩ := h
 refine Dw (cs := csF s.heap.objs.size) (fvs := fvs) I bm C hT (M.qn _ _ _) (M.cl _ _ _) (M.d0 _ _ _) (M.ndC _) (M.len _) h2 (fun j a e => ?_) (fun fi H2 n1 n2 n3 n4 n5 => h3 fi _ H2 n1 n2 n3 n4 n5)
 obtain ⟨y, m, e1, e2, e3, e4⟩ := M.fv s.heap.objs.size f (.ref c) j a e
 obtain ⟨v, e6, e7⟩ := h1 j m e4
 exact ⟨y, m, v, e1, e2, e3, e6, e7⟩
theorem Fun.makerL1 {st0 : Stmt} (F : Fun K x qual st f fd) (S : aC N ps (defScope st)) (M : Cm N qual (defScope st) T slots csF) (bm : BMain mg base) (hcode : fd.code = .ref c) (C : CodeHd base c Pt) (len : ∀ vs H Q E, sp vs H Q E → vs.length = ps.length)
  (hb : defBody st = [st0, .Return (some (.Lambda T.params T.body T.scope pos)) p2])
  (h : ∀ (cdv : Value) (A : Around) (outer : List Env) (s : Shared) (H : Hp) (vs : List V) (Q : VK) (E : XK), dF k (A.deeper (envOfC qual (defScope st) s.heap.objs.size f cdv)) → sp vs H Q E →
   ∃ t, PS (fO CX0 P w K mg base N qual (defScope st) f cdv A outer s H E).nox st0 t ∧ t { nx := fun σ H' => DX H' Pt pos T slots σ Q, rt := fun _ _ => False } (start N vs) H) : bj P w K mg base CX0 (k + 1) f fd ps sp := by
 obtain ⟨oc, od, kV, doc, pm, an, cdv, ct, osl, rfl, lk, hcd⟩ := F.ex
 obtain rfl : cdv = .ref c := hcode
 refine Cp lk hcd S len fun A outer s H vs Q E s1 hr hsp I => ?_
 rw [hb]
 obtain ⟨t, h1, h2⟩ := h _ A outer s H vs Q E hr hsp
 refine wpAny_execs_cons (wpAny_mono (h1 [] s1 (start N vs) H _ (I.wish _) h2) (fun fl s2 q => ?_) fun _ _ z => False.elim z)
 cases fl with
 | next =>
  obtain ⟨σ, H1, I1, q⟩ := q
  exact Ay M bm C I1.unwish q
 | ret u => obtain ⟨_, _, _, _, _, z⟩ := q; exact False.elim z
 | brk => obtain ⟨_, _, _, z⟩ := q; exact False.elim z
 | cont => obtain ⟨_, _, _, z⟩ := q; exact False.elim z
theorem Fj {sp : Addr → Sp} (S : qD N T) (hb : ∀ (cl : List (Str × Addr)) (pm cd ctv : Value) (us : List Value), us.length = T.ps.length → bindArgs (kla_fn "<lambda>" T.qual T.params T.body T.scope cl pm cd ctv) ⟨us, []⟩ = pure (T.ps.zip us))
  (h : ∀ (f : Addr) (vs : List V) (H : Hp) (Q : VK), sp f vs H Q E0 → vs.length = T.ps.length ∧ ∃ cs fvs, jG H f T cs fvs ∧
   ∀ (cd : Addr) (A : Around) (outer : List Env) (s : Shared), dF k (A.deeper (envX T.qual T.scope s.heap.objs.size f (.ref cd) (T.xs.zip cs))) → ∃ t, PE (pB P w K mg base N T.qual T.scope f (.ref cd) (T.xs.zip cs) A outer s (hide H cs)) T.body t ∧ t (start N (vs ++ fvs)) (hide H cs) fun v H' => Q v (over H cs H')) :
  o4 P w K mg base (k + 1) sp := by
 intro f A outer s H us vs Q hr e0 r hsp
 obtain ⟨hl, cs, fvs, ca, hbody⟩ := h f vs H Q hsp
 exact Dn S hr e0 ca (fun cl pm cd ctv => hb cl pm cd ctv us (by rw [← r.length]; exact hl)) r hl fun cd hr' => hbody cd A outer s hr'
end
end L2
set_option Elab.async false
set_option linter.all false
set_option maxRecDepth 100000
set_option maxHeartbeats 4000000
namespace L2
open PySem PySem.Spec PyProof.Rows
section
variable {X : Cx} {pins : List (Addr × Obj)} {σ : St} {H : Hp} {s : Shared} {h' : Heap}
theorem Inv.turnN {ch : List Addr} {p : Addr} {o : HO} {t' : Nat} (I : Inv X pins σ H s) (hf : ∀ b ∈ ch, iB X pins H b)
  (k : ∀ b u, b ∉ ch → s.heap.get? b = some u → h'.get? b = some u) (hp : s.heap.objs.size ≤ p)
  (new : bN X.prog X.w (upd H p o) h' p o) : Inv X pins σ (upd H p o) { s with heap := h', toks := t' } := by
 have hn := I.hok.fresh hp
 have ne : ∀ b u, H b = some u → b ∉ ch := fun b u q z => by rw [(hf b z).1] at q; cases q
 have up : ∀ b u, H b = some u → upd H p o b = some u := fun b u q => by rw [aH (aJ q hn)]; exact q
 refine I.step (g' := s.gens) (d' := s.drawn) (ch := ch) (fun b hb => ?_) (fun b u _ _ hx q _ => k b u hx q) (fun b u _ _ hx q _ => ⟨u.slots, k b u hx q⟩)
  (fun b u _ q n => by rw [aH (Nat.ne_of_lt (Nat.lt_of_lt_of_le (Heap.lt_size q) hp))]; exact n) (fun b u hx q => ⟨u, k b u hx q⟩)
  (fun b xs q => up _ _ q) (fun b ob u q => up _ _ q) (fun b ps q => ⟨#[], by rw [up _ _ q]; simp⟩) (fun m hm => ?_) (fun b u q => ?_) I.bare
 ·have fe := hf b hb
  exact ⟨fe.2.2.2.1, fe.2.1, fe.2.2.2.2.1, fe.2.2.2.2.2⟩
 ·obtain ⟨ob, es, ep, ho, r⟩ := hm
  exact ⟨ob, es, ep, k _ ob (fun z => (hf _ z).2.1 rfl) ho, r⟩
 ·by_cases hb : b = p
  ·subst hb
   rw [au] at q
   cases q
   exact new
  ·rw [aH hb] at q
   refine (I.hok b u q).stay (fun c v hc r => k c v ?_ r) (fun c r => up _ _ r) fun c xs r => up _ _ r
   rcases hc with rfl | z
   ·exact ne _ _ q
   ·exact ne _ _ z
theorem Inv.turnedN {ch : List Addr} {t' : Nat} (I : Inv X pins σ H s) (hf : ∀ b ∈ ch, iB X pins H b)
  (k : ∀ b u, b ∉ ch → s.heap.get? b = some u → h'.get? b = some u) : Inv X pins σ H { s with heap := h', toks := t' } := by
 have ne : ∀ b u, H b = some u → b ∉ ch := fun b u q z => by rw [(hf b z).1] at q; cases q
 refine I.step (g' := s.gens) (d' := s.drawn) (ch := ch) (fun b hb => ?_) (fun b u _ _ hx q _ => k b u hx q) (fun b u _ _ hx q _ => ⟨u.slots, k b u hx q⟩)
  (fun _ _ _ _ n => n) (fun b u hx q => ⟨u, k b u hx q⟩)
  (fun _ _ q => q) (fun _ _ _ q => q) (fun b ps q => ⟨#[], by rw [q]; simp⟩) (fun m hm => ?_) (fun b u q => ?_) I.bare
 ·have fe := hf b hb
  exact ⟨fe.2.2.2.1, fe.2.1, fe.2.2.2.2.1, fe.2.2.2.2.2⟩
 ·obtain ⟨ob, es, ep, ho, r⟩ := hm
  exact ⟨ob, es, ep, k _ ob (fun z => (hf _ z).2.1 rfl) ho, r⟩
 ·refine (I.hok b u q).stay (fun c v hc r => k c v ?_ r) (fun c r => r) fun c xs r => r
  rcases hc with rfl | z
  ·exact ne _ _ q
  ·exact ne _ _ z
end
def Itz (K : PySem.W.Frag) (a b : Addr) : It :=
  ⟨fun i H => ∃ xs ys x y, SqL K H a xs ∧ SqL K H b ys ∧ xs[i]? = some x ∧ ys[i]? = some y,
   fun i H v H' => ∃ p x y, H p = none ∧ v = .ref p ∧ H' = upd H p (.tup [x, y]) ∧ (∀ xs, SqL K H a xs → xs[i]? = some x) ∧ ∀ ys, SqL K H b ys → ys[i]? = some y,
   fun i H => ∃ xs ys, SqL K H a xs ∧ SqL K H b ys ∧ (xs.length ≤ i ∨ ys.length ≤ i)⟩
structure xG (z TI TO i1 i2 : Addr) : Prop where
 TIz : TI ≠ z
 TOz : TO ≠ z
 i1z : i1 ≠ z
 i2z : i2 ≠ z
 TITO : TI ≠ TO
 TIi1 : TI ≠ i1
 TIi2 : TI ≠ i2
 TOi1 : TO ≠ i1
 TOi2 : TO ≠ i2
 i12 : i1 ≠ i2
def DR (a b z TI TO i1 i2 : Addr) (i : Nat) (h : Heap) : Prop := IsZip h z TI TO .none ∧ IsPair h TI (.ref i1) (.ref i2) ∧ (∃ x y, IsPair h TO x y) ∧ h.IsListIter i1 a i ∧ h.IsListIter i2 b i
theorem jw {h : Heap} {a b : Addr} {o u : Obj} (ho : h.get? a = some o) (hu : h.get? b = some u) (hc : o.cls ≠ u.cls) : a ≠ b := fun z => by
 subst z
 rw [ho] at hu
 cases hu
 exact hc rfl
theorem wV {h : Heap} {a b z TI TO i1 i2 : Addr} {i : Nat} {xs ys : Array Value} (D : xG z TI TO i1 i2) (st : DR a b z TI TO i1 i2 i h) (h1 : h.IsList a xs) (h2 : h.IsList b ys) : ZipApart z TI TO i1 i2 a b := by
 obtain ⟨hz, hTI, ⟨x, y, hTO⟩, ⟨o1, e1, c1, _⟩, ⟨o2, e2, c2, _⟩⟩ := st
 obtain ⟨oa, ea, ca, _⟩ := h1
 obtain ⟨ob, eb, cb, _⟩ := h2
 exact ⟨D.TIz, D.TOz, D.i1z, D.i2z, D.TITO, D.TIi1, D.TIi2, D.TOi1, D.TOi2, D.i12,
  jw ea hz (by rw [ca]; show Value.type "list" ≠ Value.type "zip"; decide), jw ea hTO (by rw [ca]; show Value.type "list" ≠ Value.type "tuple"; decide), jw ea e1 (by rw [ca, c1]; decide), jw ea e2 (by rw [ca, c2]; decide),
  jw eb hz (by rw [cb]; show Value.type "list" ≠ Value.type "zip"; decide), jw eb hTO (by rw [cb]; show Value.type "list" ≠ Value.type "tuple"; decide), jw eb e1 (by rw [cb, c1]; decide), jw eb e2 (by rw [cb, c2]; decide)⟩
theorem Ci {P : Program} {w : World} {K : PySem.W.Frag} {elts : List Expr} {x1 : Nat} {tpos : Pos} (a b z TI TO i1 i2 : Addr) (D : xG z TI TO i1 i2) :
  Turn P w K (.Tuple elts x1 tpos) (Itz K a b) [z, TI, TO, i1, i2] z (DR a b z TI TO i1 i2) where
 mem := by simp
 obj := fun i h st c hc => by
  obtain ⟨hz, hTI, ⟨x, y, hTO⟩, ⟨o1, e1, c1, d1⟩, ⟨o2, e2, c2, d2⟩⟩ := st
  have hc' : c = z ∨ c = TI ∨ c = TO ∨ c = i1 ∨ c = i2 := by simpa using hc
  rcases hc' with rfl | rfl | rfl | rfl | rfl
  ·exact ⟨_, hz, fun v q => by cases q⟩
  ·exact ⟨_, hTI, fun v q => by cases q⟩
  ·exact ⟨_, hTO, fun v q => by cases q⟩
  ·exact ⟨_, e1, fun v q => by rw [d1] at q; cases q⟩
  ·exact ⟨_, e2, fun v q => by rw [d2] at q; cases q⟩
 keep := fun i h h' st k => by
  obtain ⟨hz, hTI, ⟨x, y, hTO⟩, h1, h2⟩ := st
  exact ⟨k z (by simp) _ hz, k TI (by simp) _ hTI, ⟨x, y, k TO (by simp) _ hTO⟩, h1.at fun o q => k i1 (by simp) o q, h2.at fun o q => k i2 (by simp) o q⟩
 item := by
  intro X hP hw hK hc i pins s σ H E I hf st hg
  subst hP hw hK
  obtain ⟨xs, ys, x, y, hq1, hq2, hx, hy⟩ := hg
  obtain ⟨is1, rv1, p1, hz1⟩ := I.list hq1
  obtain ⟨is2, rv2, p2, hz2⟩ := I.list hq2
  obtain ⟨u1, hu1, ru1⟩ := rv1.get hx
  obtain ⟨u2, hu2, ru2⟩ := rv2.get hy
  have D7 := wV D st p1.isList p2.isList
  obtain ⟨hz, hTI, ⟨v1, v2, hTO⟩, st1, st2⟩ := id st
  refine wpAny_pyNext_zip_item D7 hz hTI hTO st1 st2 p1.isList p2.isList (x := u1) (by simpa using hu1) (y := u2) (by simpa using hu2) fun h1 a1 a2 a3 a4 a5 a6 hk => ?_
  refine ⟨_, rfl, wpAny_letOwnedTupleGo_zip a1 fun h2 he2 hs2 => ?_⟩
  have lt : ∀ {c o}, s.heap.get? c = some o → s.heap.objs.size ≠ c := fun e => Nat.ne_of_gt (Heap.lt_size e)
  have g2 : h2.get? s.heap.objs.size = some { cls := .type "tuple", data := .seq #[u1, u2] } := (hs2.2 _ (lt hz)).trans a5
  have kk : ∀ b o, b ∉ [z, TI, TO, i1, i2] → s.heap.get? b = some o → h2.get? b = some o := fun b o hb q =>
   (hs2.2 b (fun e => hb (by simp [e]))).trans (hk b o (fun e => hb (by simp [e])) (fun e => hb (by simp [e])) (fun e => hb (by simp [e])) (fun e => hb (by simp [e])) q)
  have new : bN X.prog X.w (upd H s.heap.objs.size (.tup [x, y])) h2 s.heap.objs.size (.tup [x, y]) :=
   ⟨(by show 2 ≤ sizeLine; decide), [u1, u2], .cons ru1 (.cons ru2 .nil), _, g2, rfl, _, rfl⟩
  have I2 := I.turnN (h' := h2) (t' := s.toks) hf kk (Nat.le_refl _) new
  have hn : H s.heap.objs.size = none := I.hok.fresh (Nat.le_refl _)
  refine ⟨.ref s.heap.objs.size, _, I2, rfl, ⟨_, x, y, hn, rfl, rfl, fun zs hq => by rw [I.list_inj hq hq1]; exact hx, fun zs hq => by rw [I.list_inj hq hq2]; exact hy⟩,
   ⟨he2, (hs2.2 _ D.TIz).trans (hk _ _ D.TIz D.TITO D.TIi1 D.TIi2 hTI), ⟨u1, u2, (hs2.2 _ D.TOz).trans a2⟩, a3.extBut hs2.extBut D.i1z, a4.extBut hs2.extBut D.i2z⟩, fun b hb => ?_⟩
  have hbs : b ≠ s.heap.objs.size := by
   obtain ⟨o1, e1, _⟩ := st1
   obtain ⟨o2, e2, _⟩ := st2
   have hc' : b = z ∨ b = TI ∨ b = TO ∨ b = i1 ∨ b = i2 := by simpa using hb
   rcases hc' with rfl | rfl | rfl | rfl | rfl
   ·exact (lt hz).symm
   ·exact (lt hTI).symm
   ·exact (lt hTO).symm
   ·exact (lt e1).symm
   ·exact (lt e2).symm
  rw [aH hbs]
  exact (hf b hb).1
 done := by
  intro X hP hw hK hc i pins s σ H E I hf st hg
  subst hP hw hK
  obtain ⟨xs, ys, hq1, hq2, hx⟩ := hg
  obtain ⟨is1, rv1, p1, hz1⟩ := I.list hq1
  obtain ⟨is2, rv2, p2, hz2⟩ := I.list hq2
  have D7 := wV D st p1.isList p2.isList
  obtain ⟨hz, hTI, ⟨v1, v2, hTO⟩, st1, st2⟩ := id st
  have l1 := rv1.length
  have l2 := rv2.length
  refine wpAny_pyNext_zip_end (I.ok.hd hc) D7 hz hTI hTO st1 st2 p1.isList p2.isList ?_ fun h' hk => ⟨rfl, I.turnedN (t' := s.toks) hf fun b o hb q => hk b o (fun e => hb (by simp [e])) (fun e => hb (by simp [e])) (fun e => hb (by simp [e])) (fun e => hb (by simp [e])) q⟩
  rcases hx with hx | hx
  ·exact .inl (by simp; omega)
  ·exact .inr (by simp; omega)
 self := fun _ _ _ _ _ st h => wpAny_pyIter_zip st.1 h
section
variable {X : Cx}
def Hm (K : PySem.W.Frag) (ta : TA) : TI := fun σ H R => ta σ H fun vs H1 => ∃ a b xs ys, vs = [.ref a, .ref b] ∧ SqL K H1 a xs ∧ SqL K H1 b ys ∧ R (Itz K a b) H1
theorem Gh {a b : Expr} {ta : TA} {p pos : Pos} {elts : List Expr} {x1 : Nat} {tpos : Pos} (hg : Gl X "zip") (hm : X.mg "zip" = none) (hv : bootBuiltins "zip" = some (.type "zip")) (ha : PA X [a, b] ta)
  (hs : starEach [a, b] X.env = [(false, eval a X.env), (false, eval b X.env)] := by rfl) (hs2 : starEach [b] X.env = [(false, eval b X.env)] := by rfl) :
  PI X (.Tuple elts x1 tpos) (.Call (.Name "zip" p) [a, b] [] pos) (Hm X.K ta) := by
 intro pins s σ H R I h
 refine Call_ (dC I hg hm hv (PyProof.Rows.callWith_type1 (thn (ha pos pins s σ H _ I h) fun us s1 ⟨vs, H1, I1, r1, q1⟩ => ?_) (by rw [hs, hs2]) (by rw [hs2]; rfl)))
 obtain ⟨l1, l2, xs, ys, e, hq1, hq2, q⟩ := q1
 subst e
 cases r1 with
 | cons r rr =>
  cases rr with
  | cons r' rr =>
   cases rr
   cases r
   cases r'
   obtain ⟨is1, rv1, p1, hz1⟩ := I1.list hq1
   obtain ⟨is2, rv2, p2, hz2⟩ := I1.list hq2
   refine call_zip_2 p1.isList p2.isList fun h' hz hTI hTO hi1 hi2 hsz hk => ?_
   refine wpAny_pyIter_zip hz ?_
   have I2 : Inv X pins σ H1 { s1 with heap := h' } := I1.kept (t' := s1.toks) hk
   have D : xG (s1.heap.objs.size + 4) (s1.heap.objs.size + 2) (s1.heap.objs.size + 3) s1.heap.objs.size (s1.heap.objs.size + 1) := by
    have k : ∀ n i j : Nat, i ≠ j → n + i ≠ n + j := fun n i j h => by omega
    exact ⟨k _ 2 4 (by decide), k _ 3 4 (by decide), k _ 0 4 (by decide), k _ 1 4 (by decide), k _ 2 3 (by decide), k _ 2 0 (by decide), k _ 2 1 (by decide), k _ 3 0 (by decide), k _ 3 1 (by decide), k _ 0 1 (by decide)⟩
   refine ⟨s1.heap.objs.size + 4, _, _, Itz X.K l1 l2, H1, rfl, I2, Ci l1 l2 _ _ _ _ _ D, ⟨hz, hTI, ⟨_, _, hTO⟩, hi1, hi2⟩, fun c hc => ?_, q⟩
   have hle : s1.heap.objs.size ≤ c := by
    have hc' : c = s1.heap.objs.size + 4 ∨ c = s1.heap.objs.size + 2 ∨ c = s1.heap.objs.size + 3 ∨ c = s1.heap.objs.size ∨ c = s1.heap.objs.size + 1 := by simpa using hc
    rcases hc' with rfl | rfl | rfl | rfl | rfl
    ·exact Nat.le_add_right _ _
    ·exact Nat.le_add_right _ _
    ·exact Nat.le_add_right _ _
    ·exact Nat.le_refl _
    ·exact Nat.le_add_right _ _
   exact I1.fpOk hle (I1.hok.fresh hle)
end
theorem De {K : PySem.W.Frag} {a b : Addr} {xs ys : List V} {g : TG} {tb : TS} {D : Ends} {σ : St} {H : Hp} (Pv : Nat → St → Hp → Prop) (h0 : Pv 0 σ H) (hl : ∀ i σ H, i ≤ min xs.length ys.length → Pv i σ H → SqL K H a xs ∧ SqL K H b ys)
  (hs : ∀ i x y σ H p, xs[i]? = some x → ys[i]? = some y → Pv i σ H → H p = none → g (.ref p) σ (upd H p (.tup [x, y])) fun σ2 H2 => tb { D with nx := Pv (i + 1), ct := Pv (i + 1), bk := D.nx } σ2 H2) (hd : ∀ σ H, Pv (min xs.length ys.length) σ H → D.nx σ H) :
  ∃ W : Nat → Nat → St → Hp → Prop, (∃ m, W 0 m σ H) ∧ ∀ i m σ H, W i m σ H →
   ((Itz K a b).stop i H ∧ D.nx σ H) ∨ ((Itz K a b).go i H ∧ ∃ N : St → Hp → Prop, (∀ σ' H', N σ' H' → ∃ m', m' < m ∧ W (i + 1) m' σ' H') ∧ ∀ x H', (Itz K a b).yld i H x H' → g x σ H' fun σ2 H2 => tb { D with nx := N, ct := N, bk := D.nx } σ2 H2) := by
 refine ⟨fun i m σ H => m = min xs.length ys.length - i ∧ i ≤ min xs.length ys.length ∧ Pv i σ H, ⟨min xs.length ys.length, rfl, Nat.zero_le _, h0⟩, ?_⟩
 rintro i m σ H ⟨rfl, hi, p⟩
 obtain ⟨q1, q2⟩ := hl i σ H hi p
 by_cases hlt : i < min xs.length ys.length
 ·have k1 : i < xs.length := by omega
  have k2 : i < ys.length := by omega
  refine .inr ⟨⟨xs, ys, xs[i], ys[i], q1, q2, List.getElem?_eq_getElem k1, List.getElem?_eq_getElem k2⟩, Pv (i + 1), fun σ' H' p' => ⟨min xs.length ys.length - (i + 1), by omega, rfl, hlt, p'⟩, fun x H' y => ?_⟩
  obtain ⟨c, x, y, hn, e1, e2, hx, hy⟩ := y
  subst e1 e2
  exact hs i x y σ H c (hx xs q1) (hy ys q2) p hn
 ·have e : i = min xs.length ys.length := by omega
  subst e
  exact .inl ⟨⟨xs, ys, q1, q2, by omega⟩, hd σ H p⟩
end L2
set_option Elab.async false
set_option linter.all false
set_option maxRecDepth 100000
set_option maxHeartbeats 4000000
namespace Tw
def brk : List Int → Int → List Int
 | [], u => List.replicate u.toNat 0
 | d :: r, u => List.replicate (u - d).toNat 0 ++ 1 :: brk r (d + 1)
def Dp : List Int → Int → Prop
 | [], u => 0 ≤ u
 | d :: r, u => 0 ≤ d ∧ d ≤ u ∧ Dp r (d + 1)
theorem Dp.pos : ∀ {l : List Int} {u : Int}, Dp l u → 0 ≤ u
 | [], _, h => h
 | _ :: _, _, h => Int.le_trans h.1 h.2.1
theorem iT : ∀ {l : List Int} {u : Int}, Dp l u → (brk l u).length = u.toNat + 2 * l.length
 | [], u, _ => by simp [brk]
 | d :: r, u, h => by
  have := iT h.2.2
  have h1 := h.1
  have h2 := h.2.1
  simp only [brk, List.length_append, List.length_replicate, List.length_cons, this]
  omega
theorem wF {l : List Int} {u x : Int} {t : List Int} (h : Dp l u) (e : brk l u = x :: t) :
  (x = 0 ∧ 1 ≤ u ∧ t = brk l (u - 1) ∧ Dp l (u - 1)) ∨ ∃ r, l = u :: r ∧ x = 1 ∧ t = brk r (u + 1) ∧ Dp r (u + 1) := by
 cases l with
 | nil =>
  have hu : 0 ≤ u := h
  rcases Int.lt_or_le 0 u with z | z
  ·refine .inl ?_
   have e1 : u.toNat = (u - 1).toNat + 1 := by omega
   simp only [brk] at e ⊢
   rw [e1, List.replicate_succ] at e
   injection e with e2 e3
   exact ⟨e2.symm, z, e3.symm, show 0 ≤ u - 1 by omega⟩
  ·have : u.toNat = 0 := by omega
   simp only [brk] at e
   rw [this] at e
   cases e
 | cons d r =>
  obtain ⟨h1, h2, h3⟩ := h
  rcases Int.lt_or_le d u with z | z
  ·refine .inl ?_
   have e1 : (u - d).toNat = (u - 1 - d).toNat + 1 := by omega
   simp only [brk] at e ⊢
   rw [e1, List.replicate_succ, List.cons_append] at e
   injection e with e2 e3
   exact ⟨e2.symm, by omega, e3.symm, h1, by omega, h3⟩
  ·have : u = d := by omega
   subst this
   refine .inr ⟨r, rfl, ?_⟩
   simp only [brk] at e
   rw [Int.sub_self] at e
   injection e with e2 e3
   exact ⟨e2.symm, e3.symm, h3⟩
theorem Dr {l : List Int} {u : Int} (h : Dp l u) (e : brk l u = []) : l = [] ∧ u = 0 := by
 have := iT h
 rw [e] at this
 have hp := h.pos
 cases l with
 | nil =>
  refine ⟨rfl, ?_⟩
  have : 0 = u.toNat + 2 * 0 := this
  omega
 | cons d r =>
  rw [List.length_cons] at this
  have : 0 = u.toNat + 2 * (r.length + 1) := this
  omega
def bD (ds : List Int) : Prop := ds[0]? = some 0 ∧ ∀ i x y, ds[i]? = some x → ds[i + 1]? = some y → 1 ≤ y ∧ y ≤ x + 1
theorem Eh : ∀ (r : List Int) (a : Int), (∀ (i : Nat) (x y : Int), (a :: r)[i]? = some x → (a :: r)[i + 1]? = some y → 1 ≤ y ∧ y ≤ x + 1) → 0 ≤ a → Dp r (a + 1)
 | [], a, _, ha => by show 0 ≤ a + 1; omega
 | d :: r, a, h, ha => by
  have h0 := h 0 a d rfl rfl
  exact ⟨by omega, h0.2, Eh r d (fun i x y h1 h2 => h (i + 1) x y h1 h2) (by omega)⟩
theorem bD.dp {ds : List Int} (h : bD ds) : Dp ds 0 := by
 cases ds with
 | nil => exact absurd h.1 (by simp)
 | cons d r =>
  have : d = 0 := by
   have := h.1
   exact Option.some.inj this
  subst this
  exact ⟨by decide, by decide, Eh r 0 h.2 (by decide)⟩
theorem bD.one {ds : List Int} (h : bD ds) {i : Nat} {d : Int} (hi : 0 < i) (hd : ds[i]? = some d) : 1 ≤ d := by
 obtain ⟨j, rfl⟩ : ∃ j, i = j + 1 := ⟨i - 1, by omega⟩
 have hl := (List.getElem?_eq_some_iff.mp hd).1
 have := h.2 j ds[j] d (List.getElem?_eq_getElem (by omega)) hd
 exact this.1
theorem bD.root : bD [0] := ⟨rfl, fun i x y _ h2 => by simp at h2⟩
theorem bD.snoc {ds : List Int} {a d : Int} (h : bD ds) (hl : ds[ds.length - 1]? = some a) (h1 : 1 ≤ d) (h2 : d ≤ a + 1) : bD (ds ++ [d]) := by
 have h0 : 0 < ds.length := by
  have := (List.getElem?_eq_some_iff.mp h.1).1
  exact this
 refine ⟨by rw [List.getElem?_append_left h0]; exact h.1, fun i x y e1 e2 => ?_⟩
 rcases Nat.lt_or_ge (i + 1) ds.length with z | z
 ·rw [List.getElem?_append_left (by omega)] at e1
  rw [List.getElem?_append_left z] at e2
  exact h.2 i x y e1 e2
 ·have hz := (List.getElem?_eq_some_iff.mp e2).1
  rw [List.length_append, List.length_singleton] at hz
  have ei : i = ds.length - 1 := by omega
  rw [List.getElem?_append_left (by omega), ei, hl] at e1
  rw [List.getElem?_append_right z, show i + 1 - ds.length = 0 from by omega] at e2
  have e2 : d = y := Option.some.inj e2
  have e1 : a = x := Option.some.inj e1
  subst e1 e2
  exact ⟨h1, h2⟩
theorem bD.chains {L : Nat} (hL : 1 ≤ L) (n : Nat) : bD (0 :: (List.range n).map fun k : Nat => 1 + ((k % L : Nat) : Int)) := by
 refine ⟨rfl, fun i x y e1 e2 => ?_⟩
 rw [List.getElem?_cons_succ, List.getElem?_map] at e2
 cases ei : (List.range n)[i]? with
 | none => rw [ei] at e2; cases e2
 | some k =>
  rw [ei] at e2
  obtain ⟨hk, ek⟩ := List.getElem?_eq_some_iff.mp ei
  rw [List.getElem_range] at ek
  subst ek
  have e2 : 1 + ((i % L : Nat) : Int) = y := Option.some.inj e2
  subst e2
  refine ⟨by omega, ?_⟩
  cases i with
  | zero =>
   have e1 : (0 : Int) = x := Option.some.inj e1
   subst e1
   rw [Nat.zero_mod]
   decide
  | succ j =>
   rw [List.getElem?_cons_succ, List.getElem?_map] at e1
   rw [List.length_range] at hk
   rw [List.getElem?_range (by omega)] at e1
   have e1 : 1 + ((j % L : Nat) : Int) = x := Option.some.inj e1
   subst e1
   have hm := Nat.mod_lt (j + 1) hL
   have h1 : (j + 1) % L ≤ j % L + 1 := by
    rw [Nat.add_mod]
    refine Nat.le_trans (Nat.mod_le _ _) ?_
    have := Nat.mod_le 1 L
    omega
   omega
end Tw
set_option Elab.async false
set_option linter.all false
set_option maxRecDepth 100000
set_option maxHeartbeats 4000000
namespace L2
open PySem PySem.Spec PyProof.Rows
end L2
namespace L2
open PySem PySem.Spec PyProof.Rows
section
variable (P : Program) (w : World)
end
section
variable {P : Program} {w : World} {H H' : Hp} {h h' : Heap} {a : Addr} {o : HO}
end
section
variable {P : Program} {w : World} {H : Hp} {h h' : Heap} {x e : Addr} {o' : HO}
end
section
variable {fs fs' ex ex' : List Addr} {H H1 H2 : Hp} {h h1 h2 h' : Heap} {a x e : Addr} {o : HO}
end
end L2
namespace L2
open PySem PySem.Spec PyProof.Rows
section
variable {X : Cx} {pins : List (Addr × Obj)} {σ : List (Option V)} {H H' : Hp} {s : Shared} {h' : Heap}
end
end L2
namespace L2
open PySem PySem.Spec PyProof.Rows
section
variable {X : Cx}
variable {a b : Expr} {ta tb : TE} {pos : Pos}
variable {tA tB' : TT} {rest : List Expr}
end
end L2
namespace L2
open PySem PySem.Spec PyProof.Rows
section
variable {X : Cx} {pins : List (Addr × Obj)} {σ : St} {H : Hp} {s : Shared} {a : Addr} {xs ys : List V}
end
section
variable {X : Cx} {pins : List (Addr × Obj)} {σ : St} {H : Hp} {s : Shared} {E : Value → Shared → Prop}
end
section
variable {X : Cx} {st : Stmt} {rest : List Stmt} {t u : TS} {e : Expr} {te : TE} {pos : Pos}
end
section
variable {X : Cx} {pos : Pos}
end
section
variable {X : Cx} {pos : Pos}
end
end L2
namespace L2
open PySem PySem.Spec PyProof.Rows
section
variable {X : Cx} {tg : Expr}
end
end L2
namespace L2
open PySem PySem.Spec PyProof.Rows
section
variable {X : Cx} {a b c : Expr} {ta tb tc : TE} {pos : Pos}
end
section
variable {X : Cx} {a b c : Expr} {ta tb tc : TE} {pos : Pos}
end
end L2
namespace L2
open PySem PySem.Spec PyProof.Rows
section
variable {prog : Program} {w : World} {A : Around} {E : Value → Shared → Prop} {s : Shared} {K : PySem.W.Frag} {x dx C f : Addr} {mA : Str → Option Value} {name : Str} {v : Value}
end
section
variable {P : Program} {w : World} {H H' : Hp} {h h' : Heap} {a C dx : Addr} {fs fs' : List (Str × V)}
end
section
variable {X : Cx} {pins : List (Addr × Obj)} {σ : St} {H : Hp} {s : Shared} {a C dx : Addr} {fs : List (Str × V)} {f : Str} {v : V} {A : Around} {E : Value → Shared → Prop}
end
section
variable {X : Cx} {o e value : Expr} {f : Str} {pos pos' tpos : Pos} {ta tv : TE}
end
section
variable {X : Cx} {pins : List (Addr × Obj)} {σ : St} {H : Hp} {s : Shared} {A : Around} {E : Value → Shared → Prop} {Q : Value → Shared → Prop} {c : Value} {b : Bool}
end
end L2
namespace L2
open PySem PySem.Spec PyProof.Rows
section
variable {X : Cx} {e : Expr} {es : List Expr} {te : TE} {t : TA} {pos : Pos}
end
section
variable {X : Cx} {pins : List (Addr × Obj)} {σ : St} {H : Hp} {s s' : Shared}
end
section
variable {X : Cx} {CX : CXT} {k : Nat} {f C : Addr} {fd : FuncData} {ps : List Str} {sp : Sp} {dvs : List V} {ds : List Value} {E : XK} {x m : Str} {p pos apos : Pos} {e o : Expr} {es : List Expr} {ta : TE} {t : TA}
end
section
variable {X : Cx} {CX : CXT} {k : Nat} {f C : Addr} {fd : FuncData} {ps ks : List Str} {sp : Sp} {E : XK} {x m : Str} {p pos apos kpos : Pos} {e o : Expr} {es : List Expr} {kws : List Keyword} {te ta : TE} {t tk : TA} {nm : Option Str}
variable {g : List Value → List Value → List Value} {gV : List V → List V → List V}
end
end L2
namespace L2
open PySem PySem.Spec PyProof.Rows
section
variable {X : Cx} {x : Str} {p pos : Pos} {e : Expr} {es : List Expr} {t : TA} {id T : String} {r : List V → Hp → VK → Prop}
end
end L2
namespace L2
open PySem PySem.Spec PyProof.Rows
section
variable {κ : Type} [DecidableEq κ]
def fH (kvs : List (κ × V)) (k : κ) : Option V := (kvs.find? fun kv => decide (kv.1 = k)).map (·.2)
def putK (kvs : List (κ × V)) (k : κ) (v : V) : List (κ × V) :=
 if (kvs.any fun kv => decide (kv.1 = k)) = true then kvs.map (fun kv => if kv.1 = k then (kv.1, v) else kv) else kvs ++ [(k, v)]
theorem cX {p : κ × V} {r : List (κ × V)} {k : κ} (e : p.1 = k) : fH (p :: r) k = some p.2 := by simp [fH, List.find?_cons, e]
theorem cN {p : κ × V} {r : List (κ × V)} {k : κ} (e : ¬ p.1 = k) : fH (p :: r) k = fH r k := by simp [fH, List.find?_cons, e]
theorem mO (k : κ) : ∀ kvs : List (κ × V), (kvs.any fun kv => decide (kv.1 = k)) = (fH kvs k).isSome
 | [] => rfl
 | p :: r => by
  rw [List.any_cons]
  by_cases e : p.1 = k
  ·simp only [cX e, decide_eq_true e, Bool.true_or, Option.isSome_some]
  ·rw [cN e, decide_eq_false e, Bool.false_or]; exact mO k r
theorem vI (k j : κ) (y : V) : ∀ kvs : List (κ × V), fH (kvs.map fun kv => if kv.1 = k then (kv.1, y) else kv) j = (fH kvs j).map fun x => if j = k then y else x
 | [] => rfl
 | p :: r => by
  have ih := vI k j y r
  rw [List.map_cons]
  by_cases h : p.1 = k
  ·rw [if_pos h]
   by_cases e : p.1 = j
   ·rw [cX (p := (p.1, y)) e, cX e, Option.map_some, if_pos (e.symm.trans h)]
   ·rw [cN (p := (p.1, y)) e, cN e, ih]
  ·rw [if_neg h]
   by_cases e : p.1 = j
   ·rw [cX (p := p) e, cX e, Option.map_some, if_neg (fun z => h (e.trans z))]
   ·rw [cN (p := p) e, cN e, ih]
theorem tL (k j : κ) (y : V) : ∀ kvs : List (κ × V), fH kvs k = none → fH (kvs ++ [(k, y)]) j = if j = k then some y else fH kvs j
 | [], _ => by
  by_cases e : k = j
  ·rw [if_pos e.symm]; exact cX (p := (k, y)) e
  ·rw [if_neg (fun z => e z.symm)]; exact cN (p := (k, y)) e
 | p :: r, hn => by
  rw [List.cons_append]
  have hk : ¬ p.1 = k := fun z => by rw [cX z] at hn; cases hn
  rw [cN hk] at hn
  have ih := tL k j y r hn
  by_cases e : p.1 = j
  ·rw [cX e, cX e, if_neg (fun z => hk (e.trans z))]
  ·rw [cN e, cN e, ih]
theorem BL (kvs : List (κ × V)) (k j : κ) (y : V) : fH (putK kvs k y) j = if j = k then some y else fH kvs j := by
 unfold putK
 by_cases a : (kvs.any fun kv => decide (kv.1 = k)) = true
 ·rw [if_pos a, vI]
  rw [mO] at a
  by_cases e : j = k
  ·obtain ⟨x, hx⟩ := Option.isSome_iff_exists.mp a
   rw [if_pos e, e, hx, Option.map_some, if_pos rfl]
  ·rw [if_neg e]
   cases fH kvs j with
   | none => rfl
   | some x => rw [Option.map_some, if_neg e]
 ·rw [if_neg a]
  refine tL k j y kvs ?_
  rw [mO] at a
  cases q : fH kvs k with
  | none => rfl
  | some x => rw [q] at a; exact (a rfl).elim
theorem gw (kvs : List (κ × V)) (k : κ) (v : V) : (putK kvs k v).length ≤ kvs.length + 1 := by
 unfold putK
 split
 ·rw [List.length_map]; omega
 ·rw [List.length_append, List.length_cons, List.length_nil]; omega
theorem qb.isSome_eq {o : Option V} {u : Option Value} (r : qb o u) : o.isSome = u.isSome := by
 cases o with
 | none => cases u with
  | none => rfl
  | some _ => exact (show False from r).elim
 | some _ => cases u with
  | none => exact (show False from r).elim
  | some _ => rfl
theorem KV.val {kvs : List (κ × V)} {vs : List (κ × Value)} (r : KV kvs vs) (k : κ) : qb (fH kvs k) (valueAt vs k) := by
 unfold KV at r
 induction r with
 | nil => exact True.intro
 | @cons p q ps qs h t ih =>
  obtain ⟨h1, h2⟩ := h
  by_cases e : p.1 = k
  ·have e' : q.1 = k := h1.symm.trans e
   have b : valueAt (q :: qs) k = some q.2 := by simp [valueAt, List.find?_cons, e']
   rw [cX e, b]; exact h2
  ·have e' : ¬ q.1 = k := fun z => e (h1.trans z)
   have b : valueAt (q :: qs) k = valueAt qs k := by simp [valueAt, List.find?_cons, e']
   rw [cN e, b]; exact ih
theorem KV.any {kvs : List (κ × V)} {vs : List (κ × Value)} (r : KV kvs vs) (k : κ) : (kvs.any fun kv => decide (kv.1 = k)) = vs.any fun kv => decide (kv.1 = k) := by
 unfold KV at r
 induction r with
 | nil => rfl
 | cons h t ih => rw [List.any_cons, List.any_cons, ih, h.1]
theorem KV.repl {kvs : List (κ × V)} {vs : List (κ × Value)} (r : KV kvs vs) (k : κ) {y : V} {u : Value} (ry : RelV y u) :
  KV (kvs.map fun kv => if kv.1 = k then (kv.1, y) else kv) (vs.map fun kv => if kv.1 = k then (kv.1, u) else kv) := by
 unfold KV at r ⊢
 induction r with
 | nil => exact .nil
 | @cons p q ps qs h t ih =>
  rw [List.map_cons, List.map_cons]
  refine .cons ?_ ih
  obtain ⟨h1, h2⟩ := h
  by_cases e : p.1 = k
  ·rw [if_pos e, if_pos (h1.symm.trans e)]; exact ⟨h1, ry⟩
  ·rw [if_neg e, if_neg (fun z => e (h1.trans z))]; exact ⟨h1, h2⟩
theorem KV.put {kvs : List (κ × V)} {vs : List (κ × Value)} (r : KV kvs vs) (k : κ) {y : V} {u : Value} (ry : RelV y u) : KV (putK kvs k y) (stored vs k u) := by
 unfold putK stored
 rw [r.any k]
 by_cases e : (vs.any fun kv => decide (kv.1 = k)) = true
 ·rw [if_pos e, if_pos e]; exact r.repl k ry
 ·rw [if_neg e, if_neg e]; exact Paired.snoc r ⟨rfl, ry⟩
theorem KV.length {kvs : List (κ × V)} {vs : List (κ × Value)} (r : KV kvs vs) : kvs.length = vs.length := Paired.length r
end
theorem yG {P : Program} {w : World} {k : Key} {u : Value} (r : RelV (kV k) u) : (cL P w).is k u = true := by
 cases k with
 | inl i => obtain ⟨t, e⟩ := (show ∃ t, u = Value.int i t from r); subst e; exact vW P w i t
 | inr x => obtain ⟨t, e⟩ := (show ∃ t, u = Value.str x t from r); subst e; exact vg P w x t
theorem uc {P : Program} {w : World} : ∀ {ks : List Key} {us : List Value}, Vals (ks.map kV) us → ItemsAre (cL P w) ks us
 | [], _, r => by rw [List.map_nil] at r; cases r; exact .nil
 | k :: ks, _, r => by
  rw [List.map_cons] at r
  cases r with
  | cons h t => exact .cons (yG h) (uc t)
abbrev KT (H : Hp) : List (List Key × V) → List (List Key × Addr × Value) → Prop := Paired fun p q => p.1 = q.1 ∧ H q.2.1 = some (.tup (p.1.map kV)) ∧ RelV p.2 q.2.2
theorem KT.val {H : Hp} {kvs : List (List Key × V)} {xs : List (List Key × Addr × Value)} (r : KT H kvs xs) (k : List Key) : qb (fH kvs k) ((atKey xs k).map (·.2)) := by
 induction r with
 | nil => exact True.intro
 | @cons p q ps qs h t ih =>
  obtain ⟨h1, _, h2⟩ := h
  by_cases e : p.1 = k
  ·have e' : q.1 = k := h1.symm.trans e
   have b : atKey (q :: qs) k = some q.2 := by simp [atKey, List.find?_cons, e']
   rw [cX e, b]; exact h2
  ·have e' : ¬ q.1 = k := fun z => e (h1.trans z)
   have b : atKey (q :: qs) k = atKey qs k := by simp [atKey, List.find?_cons, e']
   rw [cN e, b]; exact ih
theorem KT.repl {H : Hp} {kvs : List (List Key × V)} {xs : List (List Key × Addr × Value)} (r : KT H kvs xs) (k : List Key) {y : V} {u : Value} (ry : RelV y u) :
  KT H (kvs.map fun kv => if kv.1 = k then (kv.1, y) else kv) (xs.map (putAt k u)) := by
 induction r with
 | nil => exact .nil
 | @cons p q ps qs h t ih =>
  rw [List.map_cons, List.map_cons]
  refine .cons ?_ ih
  obtain ⟨h1, h2, h3⟩ := h
  unfold putAt
  by_cases e : p.1 = k
  ·rw [if_pos e, if_pos (h1.symm.trans e)]; exact ⟨h1, h2, ry⟩
  ·rw [if_neg e, if_neg (fun z => e (h1.trans z))]; exact ⟨h1, h2, h3⟩
theorem KT.put {H : Hp} {kvs : List (List Key × V)} {xs : List (List Key × Addr × Value)} (r : KT H kvs xs) (k : List Key) {b : Addr} {y : V} {u : Value} (hb : H b = some (.tup (k.map kV))) (ry : RelV y u) :
  KT H (putK kvs k y) (storedH xs k b u) := by
 have e : (kvs.any fun kv => decide (kv.1 = k)) = (atKey xs k).isSome := by
  rw [mO, (r.val k).isSome_eq, Option.isSome_map]
 unfold putK storedH
 rw [e]
 by_cases q : (atKey xs k).isSome = true
 ·rw [if_pos q, if_pos q]; exact r.repl k ry
 ·rw [if_neg q, if_neg q]; exact Paired.snoc r ⟨rfl, hb, ry⟩
theorem KT.keeps {H H' : Hp} {kvs : List (List Key × V)} {xs : List (List Key × Addr × Value)} (r : KT H kvs xs) (ht : ∀ b ys, H b = some (.tup ys) → H' b = some (.tup ys)) : KT H' kvs xs :=
 Paired.mapP r fun _ _ z => ⟨z.1, ht _ _ z.2.1, z.2.2⟩
section
variable {P : Program} {w : World} {H : Hp} {h : Heap} {a : Addr}
theorem Ek {u : HO} (ok : HOk P w H h) (e : Rd H a u) : bN P w H h a u := e.ok ok
theorem Bp {kvs : List (Key × V)} (ok : HOk P w H h) (e : Rd H a (.dK kvs)) : kvs.length ≤ sizeLine ∧ (a == sysModules) = false ∧ ∃ vs, KV kvs vs ∧ h.DictOf (cL P w) a vs :=
 show bN P w H h a (.dK kvs) from Ek ok e
theorem Eb {kvs : List (Key × V)} (ok : HOk P w H h) (e : H a = some (.dK kvs)) : kvs.length ≤ sizeLine ∧ (a == sysModules) = false ∧ ∃ vs, KV kvs vs ∧ h.DictOf (cL P w) a vs := Bp ok (.inl e)
theorem yz {ks : List Key} (ok : HOk P w H h) (e : H a = some (.tup (ks.map kV))) : (tupleKind (cL P w)).is h ks a := by
 obtain ⟨_, its, r, o, h1, h2, n, h3⟩ := (show bN P w H h a (.tup (ks.map kV)) from ok a _ e)
 exact ⟨o, its.toArray, n, h1, h2, h3, by simpa using uc r⟩
theorem Bd {kvs : List (List Key × V)} (ok : HOk P w H h) (e : Rd H a (.dT kvs)) : kvs.length ≤ sizeLine ∧ (a == sysModules) = false ∧
  ∃ xs, KT H kvs xs ∧ h.DictOfH (tupleKind (cL P w)) a xs := by
 obtain ⟨z, y, xs, r, o, es, ep, h1, h2, h3, h4, h5⟩ := (show bN P w H h a (.dT kvs) from Ek ok e)
 refine ⟨z, y, xs, r, o, es, ep, h1, h2, h3, h4, fun x hx => ?_, h5⟩
 have all : ∀ {l : List (List Key × V)} {m : List (List Key × Addr × Value)}, KT H l m → ∀ x ∈ m, (tupleKind (cL P w)).is h x.1 x.2.1 := by
  intro l m q
  induction q with
  | nil => intro x hx; exact nomatch hx
  | @cons p q ps qs hq t ih =>
   intro x hx
   rcases List.mem_cons.mp hx with e | hx
   ·subst e
    exact yz ok (by rw [← hq.1]; exact hq.2.1)
   ·exact ih x hx
 exact all r x hx
theorem GJ {kvs : List (List Key × V)} (ok : HOk P w H h) (e : H a = some (.dT kvs)) : kvs.length ≤ sizeLine ∧ (a == sysModules) = false ∧
  ∃ xs, KT H kvs xs ∧ h.DictOfH (tupleKind (cL P w)) a xs := Bd ok (.inl e)
end
def xW (H : Hp) (a : Addr) (y : V) (r : Option V) : Prop :=
 (∃ kvs k, Rd H a (.dK kvs) ∧ y = kV k ∧ r = fH kvs k) ∨ ∃ kvs k b, Rd H a (.dT kvs) ∧ y = .ref b ∧ H b = some (.tup (k.map kV)) ∧ r = fH kvs k
def Bk (H : Hp) (a : Addr) (y v : V) (H' : Hp) : Prop :=
 (∃ kvs k, H a = some (.dK kvs) ∧ y = kV k ∧ kvs.length < sizeLine ∧ H' = upd H a (.dK (putK kvs k v))) ∨
 ∃ kvs k b, H a = some (.dT kvs) ∧ y = .ref b ∧ H b = some (.tup (k.map kV)) ∧ kvs.length < sizeLine ∧ H' = upd H a (.dT (putK kvs k v))
theorem xW.k {H : Hp} {a : Addr} {kvs : List (Key × V)} {k : Key} (e : H a = some (.dK kvs)) : xW H a (kV k) (fH kvs k) := .inl ⟨kvs, k, .inl e, rfl, rfl⟩
theorem Bk.k {H : Hp} {a : Addr} {kvs : List (Key × V)} {k : Key} {v : V} (e : H a = some (.dK kvs)) (hl : kvs.length < sizeLine) : Bk H a (kV k) v (upd H a (.dK (putK kvs k v))) := .inl ⟨kvs, k, e, rfl, hl, rfl⟩
section
variable {X : Cx} {pins : List (Addr × Obj)} {σ : St} {H : Hp} {s : Shared} {a : Addr} {y v : V} {u r : Value} {o : Option V} {A : Around} {E : Value → Shared → Prop}
theorem Inv.big (I : Inv X pins σ H s) : sysModules < s.heap.objs.size := by
 have h : mainGlobals < s.heap.objs.size := (I.mod.glob.keeps I.bk).lt
 exact Nat.lt_trans (by decide) h
theorem Ar {Q : Value → Shared → Prop} (hu : A.units + 1 < cLine) (I : Inv X pins σ H s) (g : xW H a y (some v)) (ry : RelV y u) (h : ∀ w' s', Inv X pins σ H s' → RelV v w' → Q w' s') :
  wpAny (model X.prog X.w) A (getItem (.ref a) u) Q E s := by
 rcases g with ⟨kvs, k, e, ey, l⟩ | ⟨kvs, k, b, e, ey, eb, l⟩
 ·subst ey
  obtain ⟨z, hd, vs, rel, dd⟩ := Bp I.hok e
  obtain ⟨w', hw, rw'⟩ := qb.some_of (v := v) (o := valueAt vs k) (by rw [l]; exact rel.val k)
  exact wpAny_getItem_of (yG ry) dd.mapOf hw (h w' _ (I.tok _) rw')
 ·subst ey
  cases (show u = Value.ref b from ry)
  obtain ⟨z, hd, xs, rel, dd⟩ := Bd I.hok e
  obtain ⟨w', hw, rw'⟩ := qb.some_of (v := v) (o := (atKey xs k).map (·.2)) (by rw [l]; exact rel.val k)
  obtain ⟨p, hp, hp2⟩ := Option.map_eq_some_iff.mp hw
  refine wpAny_getItem_heap (tupleKind_room_in1 hu) (yz I.hok eb) dd hp ?_
  rw [hp2]
  exact h w' _ (I.tok _) rw'
theorem ug {h' : Heap} {t' : Nat} {ob : HO} (I : Inv X pins σ H s) (mu : Mut (H a)) (hs : Heap.SameBut a s.heap h') (he : ∃ q, h'.get? a = some q) (new : bN X.prog X.w (upd H a ob) h' a ob) :
  Inv X pins σ (upd H a ob) { s with heap := h', toks := t' } :=
 I.write (x := a) (e := a) mu (.inl rfl) (fun b q hb z => (hs.2 b hb).trans z) he new
theorem BV {P : Program} {w : World} {H' : Hp} {h' : Heap} {kvs : List (Key × V)} {vs : List (Key × Value)} (z : kvs.length ≤ sizeLine) (hd : (a == sysModules) = false) (rel : KV kvs vs) (dd : h'.DictOf (cL P w) a vs) :
  bN P w H' h' a (.dK kvs) := ⟨z, hd, vs, rel, dd⟩
theorem zB {H' : Hp} {Q : Unit → Shared → Prop} (hu : A.units + 1 < cLine) (I : Inv X pins σ H s) (g : Bk H a y v H') (ry : RelV y u) (rv : RelV v r) (h : ∀ s', Inv X pins σ H' s' → Q () s') :
  wpAny (model X.prog X.w) A (setItem (.ref a) u r) Q E s := by
 rcases g with ⟨kvs, k, e, ey, l, eH⟩ | ⟨kvs, k, b, e, ey, eb, l, eH⟩
 ·subst ey eH
  obtain ⟨z, hd, vs, rel, dd⟩ := Eb I.hok e
  have hz : vs.length ≤ sizeLine := by rw [← rel.length]; exact z
  have hl : (putK kvs k v).length ≤ sizeLine := by have := gw kvs k v; omega
  refine wpAny_setItem_pairs (hsz := hz) (yG ry) dd fun h' dd' hs => h _ ?_
  have he : ∃ q, h'.get? a = some q := let ⟨q, _, _, hq, _⟩ := dd'; ⟨q, hq⟩
  exact ug I (by rw [e]; exact True.intro) hs he (BV hl hd (rel.put k rv) dd')
 ·subst ey eH
  cases (show u = Value.ref b from ry)
  obtain ⟨z, hd, xs, rel, dd⟩ := GJ I.hok e
  have hz : xs.length ≤ sizeLine := by rw [← Paired.length rel]; exact z
  have hl : (putK kvs k v).length ≤ sizeLine := by have := gw kvs k v; omega
  refine wpAny_setItem_heap (hsz := hz) (tupleKind_room_in1 hu) (yz I.hok eb) dd fun h' dd' hs => h _ ?_
  obtain ⟨q, es, ep, hq, h2, h3, h4, _, h5⟩ := dd'
  refine ug I (by rw [e]; exact True.intro) hs ⟨q, hq⟩ ⟨hl, hd, _, (rel.put k eb rv).keeps fun c ys ec => ?_, q, es, ep, hq, h2, h3, h4, h5⟩
  rw [aH (Gz ec e (fun z => nomatch z))]
  exact ec
end
section
variable {X : Cx} {pins : List (Addr × Obj)} {σ : St} {H : Hp} {s : Shared} {a : Addr} {kvs : List (Key × V)} {k : Key} {u : Value} {A : Around} {E : Value → Shared → Prop}
end
def GD (i : Expr) : Prop := ∀ ov iv, subscripted i false ov iv = operate [ov, iv] (getItem ov iv)
theorem CQ {prog : Program} {w : World} {A : Around} {E : Value → Shared → Prop} {s : Shared} {env : Env} {value slice : Expr} {pos : Pos} {T id : String} {Q : Value → Shared → Prop}
  (hl : typeLookup (.type T) "__getitem__" = pure (some (.builtin id))) (hs : GD slice)
  (h : wpAny (model prog w) A (eval value env) (fun o s₁ => wpAny (model prog w) A (eval slice env) (fun i s₂ => s₂.TypeIs o T ∧ wpAny (model prog w) A (getItem o i) Q E s₂) E s₁) E s) :
  wpAny (model prog w) A (eval (.Subscript value slice pos) env) Q E s := by
 refine Subscript_ (wpAny_mono h (fun o s₁ h₁ => wpAny_mono h₁ (fun i s₂ h₂ => ?_) fun _ _ x => x) fun _ _ x => x)
 obtain ⟨hT, h₂⟩ := h₂
 unfold subscriptTail
 refine wpAny_bind ?_
 rw [getitemInPython_of_ne hT.not_modules]
 refine wpAny_bind (wpAny_specialOf hT hl ?_)
 have fin : wpAny (model prog w) A (subscripted slice false o i) (fun r s₃ => wpAny (model prog w) A (letTemporaryGo value o r >>= fun _ => pure r) Q E s₃) E s₂ := by
  rw [hs o i]
  exact wpAny_operating (wpAny_mono h₂ (fun r s₃ h₃ => wpAny_bind (wpAny_letTemporaryGo (wpAny_pure h₃))) fun _ _ x => x)
 first
  | exact wpAny_pure (wpAny_bind fin)
  | exact wpAny_bind (wpAny_pure (wpAny_bind fin))
  | exact wpAny_bind fin
theorem vf {X : Cx} {pins : List (Addr × Obj)} {σ : St} {H : Hp} {s : Shared} {a : Addr} {y : V} {o : Option V} (I : Inv X pins σ H s) (g : xW H a y o) : s.TypeIs (.ref a) "dict" := by
 rcases g with ⟨kvs, k, e, _, _⟩ | ⟨kvs, k, b, e, _, _, _⟩
 ·obtain ⟨_, _, vs, _, dd⟩ := Bp I.hok e
  exact dd.typeIs
 ·obtain ⟨_, _, xs, _, dd⟩ := Bd I.hok e
  exact dd.typeIs
def Gy (td ty : TE) : TE := fun σ H Q => td σ H fun x H1 => ty σ H1 fun y H2 => ∃ a v, x = .ref a ∧ xW H2 a y (some v) ∧ Q v H2
def Gw (td ty tv : TE) : TS := fun D σ H => tv σ H fun v H1 => td σ H1 fun x H2 => ty σ H2 fun y H3 => ∃ a H4, x = .ref a ∧ Bk H3 a y v H4 ∧ D.nx σ H4
section
variable {X : Cx} {o i e value : Expr} {pos pos' tpos : Pos} {td ty tv : TE}
theorem yX (hu : X.A.units + 1 < cLine) (ho : PE X o td) (hi : PE X i ty) (hs : GD i) : PE X (.Subscript o i pos) (Gy td ty) := by
 intro pins s σ H Q I h
 refine CQ PySem.F.slot_dict_getitem.lookup hs (thn (ho pins s σ H _ I h) fun u s1 ⟨x, H1, I1, rx, q1⟩ => thn (hi pins s1 σ H1 _ I1 q1) fun iv s2 ⟨y, H2, I2, ry, a, v, ex, g, q2⟩ => ?_)
 subst ex
 obtain rfl : u = Value.ref a := rx
 exact ⟨vf I2 g, Ar hu I2 g ry fun w' s3 I3 rw' => ⟨v, H2, I3, rw', q2⟩⟩
theorem DG (hu : X.A.units + 1 < cLine) (ho : PE X o td) (hi : PE X i ty) (hv : PE X value tv) (hs : swapsWith value (some (.Subscript o i pos')) pos.line X.env = pure false) :
  PS X (.Assign [.Subscript o i pos'] value pos) (Gw td ty tv) := by
 intro pins s σ H D I h
 refine wpAny_Assign_Subscript (thn (hv pins s σ H _ I h) fun r s1 ⟨v, H1, I1, rv, q1⟩ => thn (ho pins s1 σ H1 _ I1 q1) fun u s2 ⟨x, H2, I2, rx, q2⟩ => thn (hi pins s2 σ H2 _ I2 q2) fun iv s3 ⟨y, H3, I3, ry, a, H4, ex, g, q3⟩ => ?_) hs
 subst ex
 obtain rfl : u = Value.ref a := rx
 exact zB hu I3 g ry rv fun s4 I4 => ⟨σ, H4, I4, q3⟩
end
theorem Cj {P : Program} {w : World} {H : Hp} (h : Heap) (hb : sysModules < h.objs.size) : bN P w H (h.push { cls := .type "dict", data := .dict #[] }) h.objs.size (.dK []) :=
 ⟨Nat.zero_le _, beq_eq_false_iff_ne.mpr (Ne.symm (Nat.ne_of_lt hb)), [], .nil, Heap.DictOf.new h⟩
section
variable {X : Cx} {pos : Pos}
end
def xx : List (TE × TE) → St → Hp → (List (V × V) → Hp → Prop) → Prop
 | [], _, H, Q => Q [] H
 | (tk, tv) :: r, σ, H, Q => tk σ H fun x H1 => tv σ H1 fun y H2 => xx r σ H2 fun ps H3 => Q ((x, y) :: ps) H3
abbrev VV : List (V × V) → List (Value × Value) → Prop := Paired fun p q => RelV p.1 q.1 ∧ RelV p.2 q.2
def PPs (X : Cx) (pos : Pos) (keys : List (Option Expr)) (values : List Expr) (trs : List (TE × TE)) : Prop :=
 ∀ (pins : List (Addr × Obj)) (s : Shared) (σ : St) (H : Hp) (Q : List (V × V) → Hp → Prop), Inv X pins σ H s → xx trs σ H Q →
  wpAny (model X.prog X.w) X.A (evalPairs (pairTrees keys values X.env pos)) (fun vs s' => ∃ ps H', Inv X pins σ H' s' ∧ VV ps vs ∧ Q ps H') X.xe s
theorem Ds {X : Cx} {pos : Pos} : PPs X pos [] [] [] := fun pins s σ H Q I h => pairTrees_nil_walk ⟨[], H, I, .nil, h⟩
theorem Bo {X : Cx} {pos : Pos} {k v : Expr} {ks : List (Option Expr)} {vs : List Expr} {tk tv : TE} {trs : List (TE × TE)} (hk : PE X k tk) (hv : PE X v tv) (hr : PPs X pos ks vs trs) :
  PPs X pos (some k :: ks) (v :: vs) ((tk, tv) :: trs) := fun pins s σ H Q I h =>
 pairTrees_cons_walk (thn (hk pins s σ H _ I h) fun u s1 ⟨x, H1, I1, rx, q1⟩ => thn (hv pins s1 σ H1 _ I1 q1) fun w2 s2 ⟨y, H2, I2, ry, q2⟩ =>
  thn (hr pins s2 σ H2 _ I2 q2) fun ws s3 ⟨ps, H3, I3, rel, q3⟩ => ⟨(x, y) :: ps, H3, I3, .cons ⟨rx, ry⟩ rel, q3⟩)
def iG (kvs more : List (Key × V)) : List (Key × V) := more.foldl (fun acc kv => putK acc kv.1 kv.2) kvs
theorem KV.merge : ∀ {more : List (Key × V)} {rs : List (Key × Value)} {kvs : List (Key × V)} {vs : List (Key × Value)}, KV more rs → KV kvs vs → KV (iG kvs more) (merged vs rs) := by
 intro more rs kvs vs r
 unfold KV at r
 induction r generalizing kvs vs with
 | nil => intro q; exact q
 | @cons p q ps qs h t ih =>
  intro r0
  have e : KV (putK kvs p.1 p.2) (stored vs q.1 q.2) := by
   have := r0.put p.1 h.2
   rw [← h.1]; exact this
  exact ih e
theorem kh : ∀ (more kvs : List (Key × V)), (iG kvs more).length ≤ kvs.length + more.length
 | [], kvs => by show kvs.length ≤ kvs.length + 0; omega
 | p :: r, kvs => by
  have h1 := kh r (putK kvs p.1 p.2)
  have h2 := gw kvs p.1 p.2
  show (iG (putK kvs p.1 p.2) r).length ≤ _
  rw [List.length_cons]; omega
theorem rJ {P : Program} {w : World} : ∀ {kvs : List (Key × V)} {ws : List (Value × Value)}, VV (kvs.map fun kv => (kV kv.1, kv.2)) ws → ∃ rs, Carries (cL P w) ws rs ∧ KV kvs rs
 | [], _, r => by rw [List.map_nil] at r; cases r; exact ⟨[], True.intro, .nil⟩
 | p :: kvs, _, r => by
  rw [List.map_cons] at r
  cases r with
  | @cons a b as bs h t =>
   obtain ⟨rs, c, q⟩ := rJ (P := P) (w := w) t
   obtain ⟨b1, b2⟩ := b
   exact ⟨(p.1, b2) :: rs, ⟨yG h.1, rfl, c⟩, .cons ⟨rfl, h.2⟩ q⟩
def Gq (trs : List (TE × TE)) : TE := fun σ H Q => ∀ p, H p = none → xx trs σ (upd H p (.dK [])) fun ps H2 => H2 p = some (.dK []) ∧ ∃ kvs : List (Key × V), ps = kvs.map (fun kv => (kV kv.1, kv.2)) ∧ kvs.length ≤ 15 ∧ Q (.ref p) (upd H2 p (.dK (iG [] kvs)))
theorem CW {X : Cx} {pos : Pos} {keys : List (Option Expr)} {values : List Expr} {trs : List (TE × TE)} (h : PPs X pos keys values trs) (hall : keys.all (·.isSome) = true) (hl : keys.length = values.length) (h0 : keys ≠ [])
  (h15 : keys.length ≤ 15) : PE X (.Dict keys values pos) (Gq trs) := by
 intro pins s σ H Q I q
 have hn := I.hok.fresh (Nat.le_refl s.heap.objs.size)
 have I1 := I.laid (a := s.heap.objs.size) (o := .dK []) (h' := s.heap.push { cls := .type "dict", data := .dict #[] }) (t' := s.toks) (fun _ _ q => Heap.get?_push_of_some _ q) (Nat.le_refl _) (Cj s.heap I.big)
 refine wpAny_Dict_walk (knd := cL X.prog X.w) hall hl h0 h15 (thn (h pins _ σ _ _ I1 (q _ hn)) fun ws s2 ⟨ps, H2, I2, rel, e, kvs, ep, lk, q2⟩ => ?_)
 subst ep
 obtain ⟨rs, c, rk⟩ := rJ (P := X.prog) (w := X.w) rel
 obtain ⟨z, hd, vs0, r0, dd⟩ := Eb I2.hok e
 cases r0
 refine ⟨rs, c, dd, fun h' dd' hs => ⟨.ref s.heap.objs.size, _, ?_, rfl, q2⟩⟩
 have hz : (iG [] kvs).length ≤ sizeLine := by
  have h1 := kh kvs []
  rw [List.length_nil] at h1
  rw [sizeLine_eq]; omega
 have he : ∃ q, h'.get? s.heap.objs.size = some q := let ⟨q, _, _, hq, _⟩ := dd'; ⟨q, hq⟩
 exact ug I2 (by rw [e]; exact True.intro) hs he (BV hz hd (rk.merge .nil) dd')
structure M1 (X : Cx) (o : Expr) (m : Str) (apos : Pos) (e : Expr) (cpos : Pos) : Prop where
 base : attributeBase o m X.env (eval o X.env) = eval o X.env
 few : ((backTo cpos (starEach [e] X.env)).all (fun x => !x.1) && (backToKw cpos (keywordEach [] X.env)).all (fun x => x.1.isSome)
  && decide (([e] : List Expr).length + ([] : List Keyword).length + (if ([] : List Keyword).isEmpty then 0 else 1) < 30)) = true
 line : (apos.endLine == cpos.line) = true
 trees : backTo cpos (starEach [e] X.env) = [(false, eval e X.env)]
structure M2 (X : Cx) (o : Expr) (m : Str) (apos : Pos) (e f : Expr) (cpos : Pos) : Prop where
 base : attributeBase o m X.env (eval o X.env) = eval o X.env
 few : ((backTo cpos (starEach [e, f] X.env)).all (fun x => !x.1) && (backToKw cpos (keywordEach [] X.env)).all (fun x => x.1.isSome)
  && decide (([e, f] : List Expr).length + ([] : List Keyword).length + (if ([] : List Keyword).isEmpty then 0 else 1) < 30)) = true
 line : (apos.endLine == cpos.line) = true
 trees : backTo cpos (starEach [e, f] X.env) = [(false, eval e X.env), (false, eval f X.env)]
section
variable {X : Cx} {pins : List (Addr × Obj)} {σ : St} {H : Hp} {s : Shared} {a : Addr} {y d : V} {u r : Value} {o : Option V} {A : Around} {E : Value → Shared → Prop}
end
section
variable {X : Cx} {o e f : Expr} {apos cpos : Pos} {td ty tx : TE}
end
section
variable {X : Cx} {pins : List (Addr × Obj)} {σ : St} {H : Hp} {s : Shared} {a : Addr} {kvs : List (Key × V)} {A : Around} {E : Value → Shared → Prop}
end
section
variable {X : Cx} {pins : List (Addr × Obj)} {σ : St} {H : Hp} {s : Shared} {a : Addr} {y : V} {u : Value} {A : Around} {E : Value → Shared → Prop}
end
end L2
namespace Att
open PySem PySem.W PySem.Calls PyProof.Rows
section
variable {prog : Program} {w : World} {A : Around} {E : Value → Shared → Prop} {s : Shared} {K : Frag}
end
end Att
namespace L2
open PySem PySem.Spec PyProof.Rows
end L2
namespace L2
open PySem PySem.Spec PyProof.Rows
end L2
/- THE LAST THEOREM (shape; LID, My.* are yours):
   My.Adr: a structure of the addresses that your layer names (classes, functions); My.Txt K t: a structure (Prop) of the equations over K;
   My.txt_mk : {K} {implicit addresses ..} (e1 : nsIn K mainGlobals "law" = some (some (.ref f))) (e2 : K.lookup f = some ⟨oc, od, .func (fnOf "law" "law" params body scope dV kV doc pm an cdv ct), sl⟩) (e3 : codeIn K cdv "law" = true) .. : ∃ t, My.Txt K t
set_option maxRecDepth 100000 in
set_option maxHeartbeats 0 in
theorem PySem.Challenge.cw_LID_holds : PySem.Challenge.rw_LID.Holds := by
 w_on; o_law; k_head; (case hw => w_witness2)
 k_fill
 refine L2.walk_of (l := PySem.Challenge.rw_LID) (n := 63) (k := 40) (x := "script") (CX := fun w => ..) (sp := fun _ => My.sp_law) rfl (by decide) rfl ⟨rfl, by decide, by decide⟩ (fun w h Y => PySem.W.kIn_of Y) ?F ?S ?C
 case F =>
  intro w mg fa h KX G hmg
  have T : ∃ t, My.Txt (L2.KOf KX) t := by
   dsimp only [L2.KOf]                          -- K must stand as «<heap const> w.params» for k_is
   refine' My.txt_mk ?e1 ?e2 ?e3 ..
   (case e1 => PySem.W.k_is)                    -- in the order: a name -> its address -> its object -> its parts
   (case e2 => PySem.W.k_is)
   ..
  obtain ⟨t, T⟩ := T
  have e0 := hmg.symm.trans (PySem.W.mg_of KX G T.law)
  cases e0                                       -- fa is the law's own address
  exact ⟨_, fun s u => .of_eq rfl, fun base kb nb => My.law_fn T kb nb⟩     -- if «.of_eq rfl» comes too early: refine' ⟨_, ?b, fun base kb nb => My.law_fn T kb nb⟩; exact fun s u => .of_eq rfl
 case S => exact fun w H a ns hl hO hS => ..
 case C => exact ..
(the tactic k_is has no namespace: write k_is) -/
namespace L2
open PySem PySem.Spec PyProof.Rows
section
variable {P : Program} {w : World} {K : PySem.W.Frag} {mg : Str → Option Value} {base : Heap}
end
section
variable {X : Cx}
end
section
variable {κ : Type} [DecidableEq κ]
end
end L2
set_option Elab.async false
set_option linter.all false
set_option maxRecDepth 100000
set_option maxHeartbeats 4000000
namespace L2
open PySem PySem.Spec PyProof.Rows
section
variable {X : Cx} {st : Stmt} {rest : List Stmt} {t u : TS}
def Hg (t u : TS) : TS := fun D σ H => ∃ R : St → Hp → Prop, t { D with nx := R } σ H ∧ ∀ σ' H', R σ' H' → u D σ' H'
theorem uN (h1 : PS X st t) (h2 : PSs X rest u) : PSs X (st :: rest) (Hg t u) := by
 rintro pins s σ H D I ⟨R, h, hR⟩
 refine wpAny_execs_cons (thn (h1 pins s σ H { D with nx := R } I h) fun f s1 q => ?_)
 cases f with
 | next =>
  obtain ⟨σ', H', I', q⟩ := q
  exact h2 pins s1 σ' H' D I' (hR _ _ q)
 | ret v => exact q
 | brk => exact q
 | cont => exact q
def tEc (t : TE) : TE := fun σ H Q => ∃ R : VK, t σ H R ∧ ∀ v H', R v H' → Q v H'
theorem uK {e : Expr} {t : TE} (h : PE X e t) : PE X e (tEc t) := by
 rintro pins s σ H Q I ⟨R, q, hR⟩
 exact thn (h pins s σ H R I q) fun v s1 ⟨x, H1, I1, r1, q1⟩ => ⟨x, H1, I1, r1, hR _ _ q1⟩
theorem aD {CX : CXT} {x : Str} {sd : Stmt} {ps : List Str} {f : Addr} {fd : FuncData} {sp : Sp} {j k : Nat} {E : XK} {e : Expr} {es : List Expr} {p pos : Pos} {t : TA} (D : Tw.Df X.K X.mg x sd ps f fd) (F : bj X.prog X.w X.K X.mg X.base CX j f fd ps sp) (hj : j ≤ k) (hr : dF k X.A) (hx : oJ CX X E) (hg : Gl X x)
  (ha : PA X (e :: es) t) (hdb : (x == ("__debug__" : Str)) = false := by decide) (he : starEach (e :: es) X.env = (false, eval e X.env) :: starEach es X.env := by rfl) (hpl : (backTo pos (starEach es X.env)).any (·.1) = false := by rfl) :
  PE X (.Call (.Name x p) (e :: es) [] pos) (DY sp [] E t) := CV (F.mono hj) hr hg D.m D.F.kp D.b .nil hx ha hdb he hpl
end
end L2
namespace Tw
open PySem L2
end Tw
set_option Elab.async false
set_option linter.all false
set_option maxRecDepth 100000
set_option maxHeartbeats 4000000
namespace Tw
theorem bV {ns : List Int} {k : Nat} {b : Int} (h : ns[k]? = some b) : (ns.take (k + 1)).sum = (ns.take k).sum + b := by
 rw [List.take_add_one, h]
 simp [List.sum_append]
theorem b7 {ns : List Int} (h : bu ns) (i : Nat) : ∀ j : Nat, i ≤ j → (ns.take i).sum ≤ (ns.take j).sum
 | 0, hj => by
  have : i = 0 := by omega
  subst this
  exact Int.le_refl _
 | j + 1, hj => by
  by_cases e : i = j + 1
  ·subst e
   exact Int.le_refl _
  have := b7 h i j (by omega)
  cases q : ns[j]? with
  | none =>
   rw [List.take_add_one, q]
   simp
   exact this
  | some b =>
   rw [bV q]
   have := h b (List.mem_of_getElem? q)
   omega
theorem vd : ∀ l : List Int, blk (l.map fun x => 1 - x) = 2 ^ l.length - 1 - blk l
 | [] => by simp [blk]
 | x :: l => by
  rw [List.map_cons, List.length_cons, Int.pow_succ]
  simp only [blk]
  rw [vd l]
  omega
theorem wK : ∀ (l : List Int) (k : Nat), k ≤ l.length → ((l.map fun x => 1 - x).take k).sum = k - (l.take k).sum
 | _, 0, _ => by simp
 | [], k + 1, h => by simp at h
 | x :: l, k + 1, h => by
  have := wK l k (by simpa using h)
  rw [List.map_cons, List.take_succ_cons, List.take_succ_cons, List.sum_cons, List.sum_cons, this]
  omega
theorem turned {b : Int} (h0 : 0 ≤ b) (h1 : b < 2 ^ 32) : (∀ k : Nat, k < 32 → bit (2 ^ 32 - 1 - b) k = 1 - bit b k) ∧ ∀ k : Nat, k ≤ 32 → ones (2 ^ 32 - 1 - b) k = k - ones b k := by
 have hb := wW b 32
 have e := wX 32 b h0 h1
 have hl := eE b 32
 have ht : bu ((bits b 32).map fun x => 1 - x) := fun x hx => by
  obtain ⟨y, hy, rfl⟩ := List.mem_map.mp hx
  have := hb y hy
  omega
 have et : blk ((bits b 32).map fun x => 1 - x) = 2 ^ 32 - 1 - b := by rw [vd, hl, e]
 refine ⟨fun k hk => ?_, fun k hk => ?_⟩
 ·rw [← et, pW ht, List.getElem?_map, p6 hk]
  rfl
 ·rw [← et, jB ht, wK _ _ (by omega), ← jB hb, e]
theorem CJ (b t : Int) (ht : 0 ≤ t) : ∀ n : Nat, t < ones b n → ∃ k, k < n ∧ bit b k = 1 ∧ ones b k = t
 | 0, h => by
  rw [oh] at h
  omega
 | n + 1, h => by
  by_cases c : t < ones b n
  ·obtain ⟨k, h1, h2⟩ := CJ b t ht n c
   exact ⟨k, by omega, h2⟩
  ·rw [jN] at h
   have hb : bit b n = 0 ∨ bit b n = 1 := by
    unfold bit
    omega
   exact ⟨n, by omega, by omega, by omega⟩
end Tw
set_option Elab.async false
set_option linter.all false
set_option maxRecDepth 100000
set_option maxHeartbeats 4000000
namespace Tw
theorem lr : ∀ (l : List Int) (u : Int), bu (brk l u)
 | [], u => fun b hb => .inl (List.eq_of_mem_replicate hb)
 | d :: r, u => fun b hb => by
  simp only [brk, List.mem_append, List.mem_cons] at hb
  rcases hb with hb | rfl | hb
  ·exact .inl (List.eq_of_mem_replicate hb)
  ·exact .inr rfl
  ·exact lr r _ b hb
theorem Bh {ns : List Int} {k : Nat} {b : Int} (h : ns[k]? = some b) : (ns.take (k + 1)).sum = (ns.take k).sum + b := by
 rw [List.take_add_one, h]
 simp
theorem uW {ds : List Int} (hg : bD ds) : ∀ k : Nat, k ≤ (brk ds 0).length → ∃ nd : Nat, nd ≤ ds.length ∧ nd ≤ k ∧ ((brk ds 0).take k).sum = nd ∧ (brk ds 0).drop k = brk (ds.drop nd) (ht (brk ds 0) k) ∧ Dp (ds.drop nd) (ht (brk ds 0) k)
 | 0, _ => ⟨0, Nat.zero_le _, Nat.le_refl _, rfl, by rw [dY]; rfl, by rw [dY]; exact hg.dp⟩
 | k + 1, hk => by
  obtain ⟨nd, h1, h2, h3, h4, h5⟩ := uW hg k (by omega)
  have hg1 : (brk ds 0)[k]? = some (brk ds 0)[k] := List.getElem?_eq_getElem (by omega)
  have e1 : (brk ds 0).drop k = (brk ds 0)[k] :: (brk ds 0).drop (k + 1) := List.drop_eq_getElem_cons (by omega)
  rw [e1] at h4
  have hh := dB hg1
  have hs := Bh hg1
  rcases wF h5 h4.symm with ⟨z, _, e2, d2⟩ | ⟨r, e0, z, e2, d2⟩
  ·rw [z] at hh hs
   refine ⟨nd, h1, by omega, by omega, ?_, ?_⟩
   ·rw [hh, e2]
    congr 1
    omega
   ·rw [hh, show ht (brk ds 0) k + 2 * 0 - 1 = ht (brk ds 0) k - 1 from by omega]
    exact d2
  ·rw [z] at hh hs
   have hlt : nd < ds.length := by
    have := congrArg List.length e0
    rw [List.length_drop, List.length_cons] at this
    omega
   have ed : ds.drop (nd + 1) = r := by
    have : ds.drop (nd + 1) = (ds.drop nd).drop 1 := by rw [List.drop_drop]
    rw [this, e0]
    rfl
   have eh : ht (brk ds 0) k + 2 * 1 - 1 = ht (brk ds 0) k + 1 := by omega
   refine ⟨nd + 1, hlt, by omega, by omega, ?_, ?_⟩
   ·rw [hh, eh, ed]
    exact e2
   ·rw [hh, eh, ed]
    exact d2
theorem jW {ds : List Int} (hg : bD ds) : (brk ds 0).length = 2 * ds.length := by
 rw [iT hg.dp]
 show 0 + _ = _
 omega
theorem v8 {ds : List Int} (hg : bD ds) {k : Nat} (hk : k < (brk ds 0).length) : ((brk ds 0)[k]? = some 0 ∧ 0 < ht (brk ds 0) k) ∨ ((brk ds 0)[k]? = some 1 ∧ ∃ nd : Nat, ((brk ds 0).take k).sum = nd ∧ nd < ds.length ∧ ds[nd]? = some (ht (brk ds 0) k)) := by
 obtain ⟨nd, h1, h2, h3, h4, h5⟩ := uW hg k (by omega)
 have hg1 : (brk ds 0)[k]? = some (brk ds 0)[k] := List.getElem?_eq_getElem (by omega)
 have e1 : (brk ds 0).drop k = (brk ds 0)[k] :: (brk ds 0).drop (k + 1) := List.drop_eq_getElem_cons (by omega)
 rw [e1] at h4
 rcases wF h5 h4.symm with ⟨z, u, e2, d2⟩ | ⟨r, e0, z, e2, d2⟩
 ·exact .inl ⟨by rw [hg1, z], by omega⟩
 ·refine .inr ⟨by rw [hg1, z], nd, h3, ?_, ?_⟩
  ·have := congrArg List.length e0
   rw [List.length_drop, List.length_cons] at this
   omega
  ·have := List.getElem?_drop (xs := ds) (i := nd) (j := 0)
   rw [e0] at this
   exact this.symm
theorem qO {ds : List Int} (hg : bD ds) : Tree (brk ds 0) := by
 have hl := jW hg
 have h0 : 0 < ds.length := (List.getElem?_eq_some_iff.mp hg.1).1
 refine ⟨by omega, ?_, fun k k0 k1 => ?_⟩
 ·obtain ⟨nd, h1, h2, h3, h4, h5⟩ := uW hg _ (Nat.le_refl _)
  rw [List.drop_length] at h4
  exact (Dr h5 h4.symm).2
 ·rcases v8 hg k1 with ⟨_, z⟩ | ⟨_, nd, e1, e2, e3⟩
  ·exact z
  ·obtain ⟨_, _, _, _, _, h5⟩ := uW hg k (by omega)
   have hp := h5.pos
   rcases Nat.eq_zero_or_pos nd with rfl | z
   ·unfold ht at hp
    omega
   ·have := hg.one z e3
    omega
theorem Dy {ds : List Int} (hg : bD ds) {k : Nat} (hk : (brk ds 0).length ≤ k) : ((brk ds 0).take k).sum = ds.length := by
 have h := (qO hg).2.1
 have hl := jW hg
 unfold ht at h
 rw [List.take_length] at h
 rw [List.take_of_length_le hk]
 omega
theorem wU {ds : List Int} (hg : bD ds) : (brk ds 0).sum = ds.length := by
 have := Dy hg (k := (brk ds 0).length) (Nat.le_refl _)
 rw [List.take_length] at this
 exact this
theorem Cz {ds : List Int} (hg : bD ds) {i p : Nat} (h1 : (brk ds 0)[p]? = some 1) (h2 : ((brk ds 0).take p).sum = (i : Int)) : ds[i]? = some (ht (brk ds 0) p) := by
 have hp := (List.getElem?_eq_some_iff.mp h1).1
 rcases v8 hg hp with ⟨z, _⟩ | ⟨_, nd, n1, n2, n3⟩
 ·rw [z] at h1
  cases h1
 ·have : nd = i := by omega
  subst this
  exact n3
end Tw
set_option Elab.async false
set_option linter.all false
set_option maxRecDepth 100000
set_option maxHeartbeats 4000000
namespace Tw
structure Pair (ns : List Int) (a b : Nat) : Prop where
 lt : a < b
 ltn : b < ns.length
 one : ns[a]? = some 1
 nought : ns[b]? = some 0
 eq : ht ns (b + 1) = ht ns a
 above : ∀ k, a < k → k ≤ b → ht ns a < ht ns k
theorem mK {ns : List Int} (hb : bu ns) {a k : Nat} (h1 : ns[a]? = some 1) (f : dz ns a ns.length (ht ns a) (k + 1)) : Pair ns a k := by
 obtain ⟨f1, f2, f3, f4⟩ := f
 have e := dB h1
 have hak : a < k := by
  rcases Nat.lt_or_ge a k with z | z
  ·exact z
  ·have : k = a := by omega
   subst this
   omega
 have up := f4 k hak (by omega)
 rcases yg hb (show k < ns.length by omega) with ⟨z1, z2⟩ | ⟨z1, z2⟩
 ·omega
 ·exact ⟨hak, by omega, h1, z1, by omega, fun i i1 i2 => f4 i i1 (by omega)⟩
theorem lR {ns : List Int} (hb : bu ns) {a k : Nat} {g : Int} (hg : g < ht ns a) (ha : a ≤ ns.length) (f : oZ ns a g k) : ns[k]? = some 1 ∧ ht ns k = g ∧ ∀ i, k < i → i ≤ a → g < ht ns i := by
 obtain ⟨f1, f2, f3⟩ := f
 have up : ∀ i, k < i → i ≤ a → g < ht ns i := fun i i1 i2 => by
  rcases Nat.lt_or_ge i a with z | z
  ·exact f3 i i1 z
  ·have : i = a := by omega
   rw [this]
   exact hg
 have := up (k + 1) (by omega) (by omega)
 rcases yg hb (show k < ns.length by omega) with ⟨z1, z2⟩ | ⟨z1, z2⟩
 ·exact ⟨z1, by omega, up⟩
 ·omega
theorem uv {ns : List Int} (hb : bu ns) {a k : Nat} (h1 : ns[a]? = some 0) (f : oZ ns a (ht ns a - 1) k) : Pair ns k a := by
 have ha := (List.getElem?_eq_some_iff.mp h1).1
 obtain ⟨g1, g2, g3⟩ := lR hb (by omega) (Nat.le_of_lt ha) f
 have e := dB h1
 exact ⟨f.1, ha, g1, h1, by omega, fun i i1 i2 => by have := g3 i i1 i2; omega⟩
end Tw
set_option Elab.async false
set_option linter.all false
set_option maxRecDepth 100000
set_option maxHeartbeats 4000000
namespace Tw
open PySem L2
theorem By (ns : List Int) (n : Nat) : ahd ns n = (List.range n).map (fun k => (ns.take (32 * k)).sum) ++ [(ns.take (32 * n)).sum] := by
 unfold ahd
 rw [List.range_succ, List.map_append]
 rfl
def UpN (ds : List Int) (j : Nat) (g : Int) (i : Nat) : Prop := i ≤ j ∧ ds[i]? = some g ∧ ∀ m x, i < m → m ≤ j → ds[m]? = some x → g < x
theorem UpN.uniq {ds : List Int} {j i i' : Nat} {g : Int} (h : UpN ds j g i) (h' : UpN ds j g i') : i = i' := by
 obtain ⟨a1, a2, a3⟩ := h
 obtain ⟨b1, b2, b3⟩ := h'
 rcases Nat.lt_trichotomy i i' with z | z | z
 ·have := a3 i' g z b1 b2
  omega
 ·exact z
 ·have := b3 i g z a1 a2
  omega
theorem UpN.trans {ds : List Int} {j i e : Nat} {g : Int} (h : UpN ds j g i) (h' : UpN ds i (g - 1) e) : UpN ds j (g - 1) e := by
 obtain ⟨a1, a2, a3⟩ := h
 obtain ⟨b1, b2, b3⟩ := h'
 refine ⟨by omega, b2, fun m x m1 m2 e => ?_⟩
 rcases Nat.lt_or_ge i m with z | z
 ·have := a3 m x z m2 e
  omega
 ·exact b3 m x m1 z e
def jF (ds : List Int) : Nat → Int → Option Nat
 | 0, _ => none
 | i + 1, d => if ds[i]? = some d then some i else jF ds i d
theorem qp {ds : List Int} (hg : bD ds) : ∀ (i : Nat) (x g : Int), ds[i]? = some x → 0 ≤ g → g ≤ x → ∃ e, jF ds (i + 1) g = some e ∧ UpN ds i g e
 | 0, x, g, hx, h0, h1 => by
  have : x = 0 := by
   rw [hg.1] at hx
   exact (Option.some.inj hx).symm
  have : g = x := by omega
  subst this
  refine ⟨0, by unfold jF; rw [if_pos hx], Nat.le_refl _, hx, fun m y m1 m2 => by omega⟩
 | i + 1, x, g, hx, h0, h1 => by
  by_cases e : g = x
  ·subst e
   exact ⟨i + 1, by unfold jF; rw [if_pos hx], Nat.le_refl _, hx, fun m y m1 m2 => by omega⟩
  ·have hi := (List.getElem?_eq_some_iff.mp hx).1
   have hy := List.getElem?_eq_getElem (show i < ds.length by omega)
   have hle := hg.2 i _ x hy hx
   obtain ⟨k, k1, k2, k3, k4⟩ := qp hg i _ g hy h0 (by omega)
   refine ⟨k, ?_, by omega, k3, fun m y m1 m2 ey => ?_⟩
   ·unfold jF
    rw [if_neg (fun z => e (Option.some.inj (z.symm.trans hx)))]
    exact k1
   ·rcases Nat.lt_or_ge i m with z | z
    ·have : m = i + 1 := by omega
     subst this
     rw [hx] at ey
     have := Option.some.inj ey
     omega
    ·exact k4 m y m1 z ey
def ElV (ds : List Int) (k : Nat) (v : V) : Prop := (k = 0 ∧ v = .non) ∨ ∃ (e : Nat) (d : Int), v = .int (e : Int) ∧ ds[k]? = some d ∧ 1 ≤ d ∧ UpN ds k (d - 1) e
theorem sS {ds : List Int} (hg : bD ds) {k : Nat} {d : Int} (hk : 0 < k) (hd : ds[k]? = some d) : ∃ e, jF ds k (d - 1) = some e ∧ 1 ≤ d ∧ UpN ds k (d - 1) e := by
 obtain ⟨i, rfl⟩ : ∃ i, k = i + 1 := ⟨k - 1, by omega⟩
 have hi := (List.getElem?_eq_some_iff.mp hd).1
 have hy := List.getElem?_eq_getElem (show i < ds.length by omega)
 have hle := hg.2 i _ d hy hd
 obtain ⟨e, e1, e2, e3, e4⟩ := qp hg i _ (d - 1) hy (by omega) (by omega)
 refine ⟨e, e1, by omega, by omega, e3, fun m y m1 m2 ey => ?_⟩
 rcases Nat.lt_or_ge i m with z | z
 ·have : m = i + 1 := by omega
  subst this
  rw [hd] at ey
  have := Option.some.inj ey
  omega
 ·exact e4 m y m1 z ey
theorem cR {ds : List Int} (hg : bD ds) {i : Nat} {d : Int} (h : ds[i]? = some d) : 0 ≤ d := by
 rcases Nat.eq_zero_or_pos i with z | z
 ·subst z
  rw [hg.1] at h
  have := Option.some.inj h
  omega
 ·have := hg.one z h
  omega
theorem FJ {ns : List Int} (hb : bu ns) {m : Nat} (h : (m : Int) < ns.sum) : ∃ p, ns[p]? = some 1 ∧ (ns.take p).sum = (m : Int) := by
 have : ∀ n : Nat, n ≤ ns.length → (m : Int) < (ns.take n).sum → ∃ p, ns[p]? = some 1 ∧ (ns.take p).sum = (m : Int) := by
  intro n
  induction n with
  | zero =>
   intro _ z
   rw [List.take_zero] at z
   have : ([] : List Int).sum = 0 := rfl
   omega
  | succ n ih =>
   intro hn z
   have e := List.getElem?_eq_getElem (show n < ns.length by omega)
   rw [bV e] at z
   by_cases c : (m : Int) < (ns.take n).sum
   ·exact ih (by omega) c
   ·rcases hb _ (List.getElem_mem (show n < ns.length by omega)) with y | y
    ·omega
    ·rw [y] at e z
     exact ⟨n, e, by omega⟩
 exact this ns.length (Nat.le_refl _) (by rw [List.take_length]; exact h)
theorem UpN.self {ds : List Int} {j : Nat} {d : Int} (h : ds[j]? = some d) : UpN ds j d j := ⟨Nat.le_refl _, h, fun m x m1 m2 => by omega⟩
def run (ds : List Int) (k : Nat) (g : Int) : Nat := ((ds.drop k).takeWhile fun x => decide (g < x)).length
theorem tU {ds : List Int} {k : Nat} {x : Int} (h : ds[k]? = some x) : ds.drop k = x :: ds.drop (k + 1) := by
 have hk := (List.getElem?_eq_some_iff.mp h)
 rw [List.drop_eq_getElem_cons hk.1, hk.2]
theorem uI {ds : List Int} {k : Nat} {g x : Int} (h : ds[k]? = some x) (hx : g < x) : run ds k g = run ds (k + 1) g + 1 := by
 unfold run
 rw [tU h, List.takeWhile_cons, if_pos (decide_eq_true hx), List.length_cons]
theorem yO {ds : List Int} {k : Nat} {g x : Int} (h : ds[k]? = some x) (hx : ¬ g < x) : run ds k g = 0 := by
 unfold run
 rw [tU h, List.takeWhile_cons, if_neg (fun z => hx (of_decide_eq_true z))]
 rfl
theorem yP {ds : List Int} {k : Nat} {g : Int} (h : ds.length ≤ k) : run ds k g = 0 := by
 unfold run
 rw [List.drop_eq_nil_of_le h]
 rfl
theorem lL {ds : List Int} {g : Int} : ∀ (n k : Nat), (∀ m, m < n → ∃ x, ds[k + m]? = some x ∧ g < x) → (∀ x, ds[k + n]? = some x → ¬ g < x) → run ds k g = n
 | 0, k, _, h => by
  cases e : ds[k]? with
  | none => exact yP (List.getElem?_eq_none_iff.mp e)
  | some x => exact yO e (h x (by rw [Nat.add_zero]; exact e))
 | n + 1, k, h1, h2 => by
  obtain ⟨x, e, hx⟩ := h1 0 (by omega)
  rw [Nat.add_zero] at e
  rw [uI e hx, lL n (k + 1) (fun m hm => by
   obtain ⟨y, e, hy⟩ := h1 (m + 1) (by omega)
   exact ⟨y, by rw [← e]; congr 1; omega, hy⟩) (fun y e => h2 y (by rw [← e]; congr 1; omega))]
theorem mC {ds : List Int} {g : Int} : ∀ (n k : Nat), run ds k g = n → (∀ m, m < n → ∃ x, ds[k + m]? = some x ∧ g < x) ∧ (∀ x, ds[k + n]? = some x → ¬ g < x)
 | 0, k, h => by
  refine ⟨fun m hm => absurd hm (Nat.not_lt_zero _), fun x e hx => ?_⟩
  rw [Nat.add_zero] at e
  rw [uI e hx] at h
  omega
 | n + 1, k, h => by
  cases e : ds[k]? with
  | none =>
   rw [yP (List.getElem?_eq_none_iff.mp e)] at h
   omega
  | some x =>
   by_cases hx : g < x
   ·rw [uI e hx] at h
    obtain ⟨a, b⟩ := mC (ds := ds) (g := g) n (k + 1) (by omega)
    refine ⟨fun m hm => ?_, fun y e => b y (by rw [← e]; congr 1; omega)⟩
    rcases Nat.eq_zero_or_pos m with z | z
    ·subst z
     exact ⟨x, e, hx⟩
    ·obtain ⟨y, e, hy⟩ := a (m - 1) (by omega)
     exact ⟨y, by rw [← e]; congr 1; omega, hy⟩
   ·rw [yO e hx] at h
    omega
theorem qM {ds : List Int} {i j : Nat} {d : Int} (hi : ds[i]? = some d) (hj : j < ds.length) : UpN ds j d i ↔ i ≤ j ∧ j ≤ i + run ds (i + 1) d := by
 obtain ⟨a, b⟩ := mC _ (i + 1) (rfl : run ds (i + 1) d = _)
 constructor
 ·rintro ⟨h1, h2, h3⟩
  refine ⟨h1, ?_⟩
  rcases Nat.lt_or_ge (i + run ds (i + 1) d) j with z | z
  ·have e := List.getElem?_eq_getElem (show i + 1 + run ds (i + 1) d < ds.length by omega)
   exact absurd (h3 _ _ (by omega) (by omega) e) (b _ e)
  ·exact z
 ·rintro ⟨h1, h2⟩
  refine ⟨h1, hi, fun m x m1 m2 e => ?_⟩
  obtain ⟨y, ey, hy⟩ := a (m - (i + 1)) (by omega)
  rw [show i + 1 + (m - (i + 1)) = m from by omega, e] at ey
  rw [Option.some.inj ey]
  exact hy
end Tw
set_option Elab.async false
set_option linter.all false
set_option maxRecDepth 100000
set_option maxHeartbeats 4000000
namespace Tw
open PySem L2
def YoP (ds : List Int) (n j : Nat) (v : V) : Prop := ∃ d, ds[j]? = some d ∧ ((∃ k : Nat, v = .int (k : Int) ∧ j < k ∧ k < n ∧ ds[k]? = some d ∧ ∀ m y, j < m → m < k → ds[m]? = some y → d < y) ∨ (v = .non ∧ ∀ k, j < k → k < n → ds[k]? = some d → ∃ m y, j < m ∧ m < k ∧ ds[m]? = some y ∧ y < d))
def FiP (ds : List Int) (n j : Nat) (v : V) : Prop := ∃ d, ds[j]? = some d ∧ ((v = .int ((j + 1 : Nat) : Int) ∧ j + 1 < n ∧ ds[j + 1]? = some (d + 1)) ∨ (v = .non ∧ ¬ (j + 1 < n ∧ ds[j + 1]? = some (d + 1))))
theorem YoP.old {ds : List Int} {k j : Nat} {d : Int} {v : V} (hk : ds[k]? = some d) (hj : j < k) (h : YoP ds k j v) (hno : ds[j]? = some d → ∃ m y, j < m ∧ m < k ∧ ds[m]? = some y ∧ y ≤ d) (hgap : ∀ m, j < m → m < k → ds[m]? = some d → ds[j]? = some d → True) : YoP ds (k + 1) j v := by
 obtain ⟨e, he, ⟨i, rfl, h1, h2, h3, h4⟩ | ⟨rfl, h1⟩⟩ := h
 ·exact ⟨e, he, .inl ⟨i, rfl, h1, by omega, h3, h4⟩⟩
 ·refine ⟨e, he, .inr ⟨rfl, fun i i1 i2 i3 => ?_⟩⟩
  rcases Nat.lt_or_ge i k with z | z
  ·exact h1 i i1 z i3
  ·have : i = k := by omega
   subst this
   rw [hk] at i3
   cases i3
   obtain ⟨m, y, m1, m2, m3, m4⟩ := hno he
   rcases Int.lt_or_eq_of_le m4 with z | z
   ·exact ⟨m, y, m1, m2, m3, z⟩
   ·subst z
    obtain ⟨m', y', a1, a2, a3, a4⟩ := h1 m m1 m2 m3
    exact ⟨m', y', a1, by omega, a3, a4⟩
theorem YoP.new {ds : List Int} {k e : Nat} {d : Int} (hk : ds[k]? = some d) (he : ds[e]? = some d) (hek : e < k) (hb : ∀ m y, e < m → m < k → ds[m]? = some y → d < y) : YoP ds (k + 1) e (.int (k : Int)) := ⟨d, he, .inl ⟨k, rfl, hek, by omega, hk, hb⟩⟩
theorem YoP.none {ds : List Int} {k : Nat} {d : Int} (hk : ds[k]? = some d) : YoP ds (k + 1) k .non := ⟨d, hk, .inr ⟨rfl, fun i i1 i2 => by omega⟩⟩
theorem FiP.none {ds : List Int} {k : Nat} {d : Int} (hk : ds[k]? = some d) : FiP ds (k + 1) k .non := ⟨d, hk, .inr ⟨rfl, fun z => by omega⟩⟩
theorem FiP.old {ds : List Int} {k j : Nat} {v : V} (hj : j + 1 < k) (h : FiP ds k j v) : FiP ds (k + 1) j v := by
 obtain ⟨e, he, ⟨rfl, h1, h2⟩ | ⟨rfl, h1⟩⟩ := h
 ·exact ⟨e, he, .inl ⟨rfl, by omega, h2⟩⟩
 ·exact ⟨e, he, .inr ⟨rfl, fun z => h1 ⟨hj, z.2⟩⟩⟩
theorem FiP.last {ds : List Int} {j : Nat} {d x : Int} (hj : ds[j]? = some d) (hk : ds[j + 1]? = some x) : FiP ds (j + 2) j (if x = d + 1 then .int ((j + 1 : Nat) : Int) else .non) := by
 by_cases z : x = d + 1
 ·rw [if_pos z]
  exact ⟨d, hj, .inl ⟨rfl, by omega, by rw [hk, z]⟩⟩
 ·rw [if_neg z]
  exact ⟨d, hj, .inr ⟨rfl, fun y => z (by have := y.2; rw [hk] at this; exact Option.some.inj this)⟩⟩
def fD (ds : List Int) (K j : Nat) (b : Int) : Prop := ∃ (d : Int) (c t : Nat), ds[j]? = some d ∧ b = (t : Int) - c ∧ j < c ∧ c ≤ t ∧ t ≤ ds.length ∧ (∀ m y, j < m → m < t → ds[m]? = some y → d < y) ∧ (∀ y, ds[t]? = some y → y ≤ d) ∧ (c = t ∨ (K ≤ c ∧ ds[c]? = some (d + 1))) ∧ ∀ m, K ≤ m → j < m → m < c → ds[m]? ≠ some (d + 1)
theorem fD.first {ds : List Int} (hg : bD ds) {j : Nat} {b : Int} (h : fD ds (j + 1) j b) : ∃ (d : Int) (t : Nat), ds[j]? = some d ∧ b = (t : Int) - (j + 1 : Nat) ∧ j < t ∧ t ≤ ds.length ∧ (∀ m y, j < m → m < t → ds[m]? = some y → d < y) ∧ ∀ y, ds[t]? = some y → y ≤ d := by
 obtain ⟨d, c, t, hd, hb, hjc, hct, htl, hin, hout, hc, hmin⟩ := h
 have ec : c = j + 1 := by
  rcases Nat.lt_or_ge (j + 1) c with z | z
  ·exfalso
   have e := List.getElem?_eq_getElem (show j + 1 < ds.length by omega)
   have h1 := hin (j + 1) _ (by omega) (by omega) e
   have h2 := (hg.2 j d _ hd e).2
   exact hmin (j + 1) (Nat.le_refl _) (by omega) z (by rw [e]; exact congrArg some (by omega))
  ·omega
 subst ec
 exact ⟨d, t, hd, hb, by omega, htl, hin, hout⟩
theorem fD.other {ds : List Int} {m j e : Nat} {b x : Int} (hm : ds[m]? = some x) (he : UpN ds m (x - 1) e) (hem : e < m) (hj : j ≠ e) (h : fD ds (m + 1) j b) : fD ds m j b := by
 obtain ⟨d, c, t, hd, hb, hjc, hct, htl, hin, hout, hc, hmin⟩ := h
 refine ⟨d, c, t, hd, hb, hjc, hct, htl, hin, hout, ?_, fun i i1 i2 i3 i4 => ?_⟩
 ·rcases hc with z | ⟨z, y⟩
  ·exact .inl z
  ·exact .inr ⟨by omega, y⟩
 ·rcases Nat.lt_or_ge m i with z | z
  ·exact hmin i z i2 i3 i4
  ·have : i = m := by omega
   subst this
   rw [hm] at i4
   have ex : x = d + 1 := Option.some.inj i4
   apply hj
   refine UpN.uniq (ds := ds) (j := i) (g := x - 1) ⟨by omega, by rw [hd]; exact congrArg some (by omega), fun q y q1 q2 ey => ?_⟩ he
   have := hin q y q1 (by omega) ey
   omega
theorem fD.elder {ds : List Int} (hg : bD ds) {m e : Nat} {bm be x : Int} (hm : ds[m]? = some x) (he : UpN ds m (x - 1) e) (hem : e < m) (h : fD ds (m + 1) m bm) (h' : fD ds (m + 1) e be) : fD ds m e (be + bm + 1) := by
 obtain ⟨d, t, hd, hb, hmt, htl, hin, hout⟩ := h.first hg
 rw [hm] at hd
 have hd := Option.some.inj hd
 subst hd
 obtain ⟨g, c, u, hgd, hb', hec, hcu, hul, hin', hout', hc, hmin⟩ := h'
 have eg : g = x - 1 := Option.some.inj (hgd.symm.trans he.2.1)
 subst eg
 have hmu : m < u := by
  rcases Nat.lt_or_ge m u with z | z
  ·exact z
  ·exfalso
   have hl := (List.getElem?_eq_some_iff.mp hm).1
   have e := List.getElem?_eq_getElem (show u < ds.length by omega)
   have h1 := hout' _ e
   have := he.2.2 u _ (by omega) z e
   omega
 have htu : t ≤ u := by
  rcases Nat.lt_or_ge u t with z | z
  ·exfalso
   have e := List.getElem?_eq_getElem (show u < ds.length by omega)
   have h1 := hout' _ e
   have h2 := hin u _ hmu z e
   omega
  ·exact z
 have hct : c = t := by
  have hc1 : t ≤ c := by
   rcases Nat.lt_or_ge c t with z | z
   ·exfalso
    rcases hc with y | ⟨y1, y2⟩
    ·omega
    ·have := hin c _ (by omega) z y2
     omega
   ·exact z
  rcases Nat.lt_or_ge t c with z | z
  ·exfalso
   have e := List.getElem?_eq_getElem (show t < ds.length by omega)
   have h1 := hout _ e
   have h2 := hin' t _ (by omega) (by omega) e
   exact hmin t (by omega) (by omega) z (by rw [e]; exact congrArg some (by omega))
  ·omega
 subst hct
 refine ⟨x - 1, m, u, hgd, by omega, hem, by omega, hul, hin', hout', .inr ⟨Nat.le_refl _, by rw [hm]; exact congrArg some (by omega)⟩, fun i i1 i2 i3 => by omega⟩
theorem fD.init {ds : List Int} {j : Nat} (hj : j < ds.length) : fD ds ds.length j 0 := by
 have hd := List.getElem?_eq_getElem hj
 obtain ⟨h1, h2⟩ := mC _ _ (rfl : run ds (j + 1) ds[j] = run ds (j + 1) ds[j])
 have hl : j + 1 + run ds (j + 1) ds[j] ≤ ds.length := by
  rcases Nat.eq_zero_or_pos (run ds (j + 1) ds[j]) with z | z
  ·omega
  ·obtain ⟨x, ex, _⟩ := h1 (run ds (j + 1) ds[j] - 1) (by omega)
   have := (List.getElem?_eq_some_iff.mp ex).1
   omega
 refine ⟨ds[j], j + 1 + run ds (j + 1) ds[j], j + 1 + run ds (j + 1) ds[j], hd, by omega, by omega, Nat.le_refl _, hl, fun m y m1 m2 ey => ?_, fun y ey => ?_, .inl rfl, fun m m1 m2 m3 => by omega⟩
 ·obtain ⟨x, ex, hx⟩ := h1 (m - (j + 1)) (by omega)
  rw [show j + 1 + (m - (j + 1)) = m by omega, ey] at ex
  cases ex
  exact hx
 ·have := h2 y ey
  omega
theorem fD.ge {ds : List Int} {K j : Nat} {b : Int} (hK : K ≤ j + 1) (h : fD ds K j b) : fD ds (j + 1) j b := by
 obtain ⟨d, c, t, hd, hb, hjc, hct, htl, hin, hout, hc, hmin⟩ := h
 refine ⟨d, c, t, hd, hb, hjc, hct, htl, hin, hout, ?_, fun i i1 i2 i3 => hmin i (by omega) i2 i3⟩
 rcases hc with z | ⟨_, y⟩
 ·exact .inl z
 ·exact .inr ⟨by omega, y⟩
theorem fD.run {ds : List Int} (hg : bD ds) {j : Nat} {b : Int} (h : fD ds 1 j b) : ∃ d, ds[j]? = some d ∧ b = ((Tw.run ds (j + 1) d : Nat) : Int) := by
 obtain ⟨d, t, hd, hb, hjt, htl, hin, hout⟩ := (h.ge (by omega)).first hg
 have : Tw.run ds (j + 1) d = t - (j + 1) := by
  refine lL _ _ (fun m hm => ?_) (fun x ex => ?_)
  ·have e := List.getElem?_eq_getElem (show j + 1 + m < ds.length by omega)
   exact ⟨_, e, hin _ _ (by omega) (by omega) e⟩
  ·rw [show j + 1 + (t - (j + 1)) = t by omega] at ex
   have := hout x ex
   omega
 exact ⟨d, hd, by rw [this]; omega⟩
def OlR (ds : List Int) (j : Nat) (v : V) : Prop := ∃ d, ds[j]? = some d ∧ ((∃ i : Nat, v = .int (i : Int) ∧ i < j ∧ ds[i]? = some d ∧ ∀ m y, i < m → m < j → ds[m]? = some y → d < y) ∨ (v = .non ∧ ∀ i, i < j → ds[i]? = some d → ∃ m y, i < m ∧ m < j ∧ ds[m]? = some y ∧ y < d))
def Dv (X : Hp) (ds : List Int) (n k : Nat) (B : Int → Prop) (y : V) : Prop := ∃ (q : Addr) (d : Int) (el fi yo ol : V) (be : Int), y = .ref q ∧ X q = some (.lst [.int (2 * (k : Int) - d), .int d, el, fi, yo, ol, .int be]) ∧ ds[k]? = some d ∧ ElV ds k el ∧ FiP ds n k fi ∧ YoP ds n k yo ∧ OlR ds k ol ∧ B be
structure Rows (H X : Hp) (r : Addr) (ds : List Int) (n L : Nat) (B : Nat → Int → Prop) (xs : List V) : Prop where
 row : X r = some (.lst xs)
 len : xs.length = L
 all : ∀ (j : Nat) (y : V), xs[j]? = some y → Dv X ds n j (B j) y
 inj : ∀ (i j : Nat) (q : Addr), xs[i]? = some (.ref q) → xs[j]? = some (.ref q) → i = j
 new : ∀ (j : Nat) (q : Addr), xs[j]? = some (.ref q) → H q = none ∧ q ≠ r
theorem Rows.kept {H X Y : Hp} {r : Addr} {ds : List Int} {n L : Nat} {B : Nat → Int → Prop} {xs : List V} (h : Rows H X r ds n L B xs) (k : ∀ b ys, X b = some (.lst ys) → b = r ∨ H b = none → Y b = some (.lst ys)) : Rows H Y r ds n L B xs :=
 ⟨k _ _ h.row (.inl rfl), h.len, fun j y e => by
  obtain ⟨q, d, el, fi, yo, ol, be, rfl, h1, h2⟩ := h.all j y e
  exact ⟨q, d, el, fi, yo, ol, be, rfl, k _ _ h1 (.inr (h.new j q e).1), h2⟩, h.inj, h.new⟩
theorem Rows.set {H X : Hp} {r q : Addr} {ds : List Int} {n n' L e : Nat} {B B' : Nat → Int → Prop} {xs : List V} {ls : List V} (h : Rows H X r ds n L B xs) (he : xs[e]? = some (.ref q)) (hnew : Dv (L2.upd X q (.lst ls)) ds n' e (B' e) (.ref q))
  (hold : ∀ j, j ≠ e → j < L → (∀ v, FiP ds n j v → FiP ds n' j v) ∧ (∀ v, YoP ds n j v → YoP ds n' j v) ∧ ∀ b, B j b → B' j b) : Rows H (L2.upd X q (.lst ls)) r ds n' L B' xs := by
 refine ⟨by rw [aH (Ne.symm (h.new e q he).2)]; exact h.row, h.len, fun j y ej => ?_, h.inj, h.new⟩
 by_cases z : j = e
 ·subst z
  rw [he] at ej
  cases ej
  exact hnew
 ·obtain ⟨q', d, el, fi, yo, ol, be, rfl, h1, h2, h3, h4, h5, h6, h7⟩ := h.all j y ej
  have hj : j < L := by
   rw [← h.len]
   exact (List.getElem?_eq_some_iff.mp ej).1
  obtain ⟨o1, o2, o3⟩ := hold j z hj
  exact ⟨q', d, el, fi, yo, ol, be, rfl, by rw [aH (fun y => z (h.inj j e q (by rw [← y]; exact ej) he))]; exact h1, h2, h3, o1 _ h4, o2 _ h5, h6, o3 _ h7⟩
end Tw
set_option Elab.async false
set_option maxRecDepth 100000
set_option maxHeartbeats 4000000
namespace Tw
open PySem L2
def top (i : Nat) : Stmt := PySem.Challenge.pw_thinwood_k49_whole_tree_asked.main.body.getD i (.Pass ⟨0, 0, 0, 0⟩)
abbrev qL : Stmt := top 10
theorem Af : aC ["bits"] ["bits"] (defScope qL) := ⟨rfl, rfl, rfl, by decide +kernel, rfl, by decide +kernel, by decide +kernel⟩
abbrev jy : Stmt := top 11
theorem lY : aC ["bits", "bit"] ["bits"] (defScope jy) := ⟨rfl, rfl, rfl, by decide +kernel, rfl, by decide +kernel, by decide +kernel⟩
abbrev lJ : Stmt := top 12
theorem gA : aC ["bits", "block", "bit"] ["bits"] (defScope lJ) := ⟨rfl, rfl, rfl, by decide +kernel, rfl, by decide +kernel, by decide +kernel⟩
abbrev qx : Stmt := top 13
theorem zm : aC ["block", "k"] ["block", "k"] (defScope qx) := ⟨rfl, rfl, rfl, by decide +kernel, rfl, by decide +kernel, by decide +kernel⟩
abbrev m5 : Stmt := top 14
theorem xO : aC ["block", "upto"] ["block", "upto"] (defScope m5) := ⟨rfl, rfl, rfl, by decide +kernel, rfl, by decide +kernel, by decide +kernel⟩
abbrev m8 : Stmt := top 15
theorem xj : aC ["block", "upto"] ["block", "upto"] (defScope m8) := ⟨rfl, rfl, rfl, by decide +kernel, rfl, by decide +kernel, by decide +kernel⟩
abbrev rE : Stmt := top 16
theorem ig : aC ["block", "nth", "ones", "k", "bit"] ["block", "nth"] (defScope rE) := ⟨rfl, rfl, rfl, by decide +kernel, rfl, by decide +kernel, by decide +kernel⟩
abbrev oF : Stmt := top 17
theorem gf : aC ["block", "upto", "nets", "net", "bit"] ["block", "upto"] (defScope oF) := ⟨rfl, rfl, rfl, by decide +kernel, rfl, by decide +kernel, by decide +kernel⟩
abbrev qC : Stmt := top 18
theorem z9 : aC ["block", "upto"] ["block", "upto"] (defScope qC) := ⟨rfl, rfl, rfl, by decide +kernel, rfl, by decide +kernel, by decide +kernel⟩
abbrev gb : Stmt := top 19
theorem eO : aC ["block", "start", "stop", "goal", "k", "net"] ["block", "start", "stop", "goal"] (defScope gb) := ⟨rfl, rfl, rfl, by decide +kernel, rfl, by decide +kernel, by decide +kernel⟩
abbrev gD : Stmt := top 20
theorem cU : aC ["block", "start", "stop", "goal", "found", "k", "net"] ["block", "start", "stop", "goal"] (defScope gD) := ⟨rfl, rfl, rfl, by decide +kernel, rfl, by decide +kernel, by decide +kernel⟩
abbrev m7 : Stmt := top 23
theorem iY : aC ["numbers", "size", "nodes", "node"] ["numbers"] (defScope m7) := ⟨rfl, rfl, rfl, by decide +kernel, rfl, by decide +kernel, by decide +kernel⟩
abbrev n6 : Stmt := top 24
theorem kY : aC ["many", "size"] ["many"] (defScope n6) := ⟨rfl, rfl, rfl, by decide +kernel, rfl, by decide +kernel, by decide +kernel⟩
abbrev jq : Stmt := top 25
theorem uw : aC ["one", "other"] ["one", "other"] (defScope jq) := ⟨rfl, rfl, rfl, by decide +kernel, rfl, by decide +kernel, by decide +kernel⟩
abbrev kW : Stmt := top 26
theorem vo : aC ["many", "look", "start", "stop"] ["many", "look", "start", "stop"] (defScope kW) := ⟨rfl, rfl, rfl, by decide +kernel, rfl, by decide +kernel, by decide +kernel⟩
abbrev eQ : Stmt := top 27
theorem ik : aC ["many", "look", "start", "goal", "node"] ["many", "look", "start", "goal"] (defScope eQ) := ⟨rfl, rfl, rfl, by decide +kernel, rfl, by decide +kernel, by decide +kernel⟩
abbrev gm : Stmt := top 28
theorem ji : aC ["many", "look", "stop", "goal", "node"] ["many", "look", "stop", "goal"] (defScope gm) := ⟨rfl, rfl, rfl, by decide +kernel, rfl, by decide +kernel, by decide +kernel⟩
abbrev eV : Stmt := top 29
theorem cY : aC ["size", "look", "node", "goal", "side", "found"] ["size", "look", "node", "goal", "side"] (defScope eV) := ⟨rfl, rfl, rfl, by decide +kernel, rfl, by decide +kernel, by decide +kernel⟩
abbrev fj : Stmt := top 30
theorem nO : aC ["many", "start", "stop"] ["many", "start", "stop"] (defScope fj) := ⟨rfl, rfl, rfl, by decide +kernel, rfl, by decide +kernel, by decide +kernel⟩
abbrev uQ : Stmt := top 31
theorem dm : aC ["many", "start", "stop", "size", "low", "high", "lefts", "rights"] ["many", "start", "stop"] (defScope uQ) := ⟨rfl, rfl, rfl, by decide +kernel, rfl, by decide +kernel, by decide +kernel⟩
abbrev kJ : Stmt := top 33
theorem o7 : aC ["bits", "blocks"] ["bits"] (defScope kJ) := ⟨rfl, rfl, rfl, by decide +kernel, rfl, by decide +kernel, by decide +kernel⟩
abbrev kO : Stmt := top 34
theorem jA : aC ["blocks", "ahead", "block"] ["blocks"] (defScope kO) := ⟨rfl, rfl, rfl, by decide +kernel, rfl, by decide +kernel, by decide +kernel⟩
abbrev gJ : Stmt := top 35
theorem ql : aC ["at", "most"] ["at", "most"] (defScope gJ) := ⟨rfl, rfl, rfl, by decide +kernel, rfl, by decide +kernel, by decide +kernel⟩
abbrev qQ : Stmt := top 36
theorem Am : aC ["tables", "look", "at"] ["tables", "look", "at"] (defScope qQ) := ⟨rfl, rfl, rfl, by decide +kernel, rfl, by decide +kernel, by decide +kernel⟩
abbrev oW : Stmt := top 37
theorem fU : aC ["tables", "look", "at", "many", "ahead", "number", "within"] ["tables", "look", "at"] (defScope oW) := ⟨rfl, rfl, rfl, by decide +kernel, rfl, by decide +kernel, by decide +kernel⟩
abbrev jt : Stmt := top 38
theorem jd : aC ["tables", "look", "nth", "ahead", "number"] ["tables", "look", "nth"] (defScope jt) := ⟨rfl, rfl, rfl, by decide +kernel, rfl, by decide +kernel, by decide +kernel⟩
abbrev jH : Stmt := top 39
theorem u6 : aC ["nth", "many"] ["nth", "many"] (defScope jH) := ⟨rfl, rfl, rfl, by decide +kernel, rfl, by decide +kernel, by decide +kernel⟩
abbrev dI : Stmt := top 40
theorem bM : aC ["numbers", "goal", "low", "high", "middle"] ["numbers", "goal"] (defScope dI) := ⟨rfl, rfl, rfl, by decide +kernel, rfl, by decide +kernel, by decide +kernel⟩
abbrev oG : Stmt := top 42
theorem fP : aC ["bits", "level", "at", "bit"] ["bits"] (defScope oG) := ⟨rfl, rfl, rfl, by decide +kernel, rfl, by decide +kernel, by decide +kernel⟩
abbrev dO : Stmt := top 43
theorem mJ : aC ["bits"] ["bits"] (defScope dO) := ⟨rfl, rfl, rfl, by decide +kernel, rfl, by decide +kernel, by decide +kernel⟩
abbrev eX : Stmt := top 44
theorem cF : aC ["bits", "row", "tables", "blocks", "lows"] ["bits"] (defScope eX) := ⟨rfl, rfl, rfl, by decide +kernel, rfl, by decide +kernel, by decide +kernel⟩
abbrev qw : Stmt := top 45
theorem zK : aC ["tables", "number", "block"] ["tables", "number", "block"] (defScope qw) := ⟨rfl, rfl, rfl, by decide +kernel, rfl, by decide +kernel, by decide +kernel⟩
abbrev oY : Stmt := top 46
theorem xH : aC ["tables", "number"] ["tables", "number"] (defScope oY) := ⟨rfl, rfl, rfl, by decide +kernel, rfl, by decide +kernel, by decide +kernel⟩
abbrev fM : Stmt := top 47
theorem pH : aC ["number", "at"] ["number", "at"] (defScope fM) := ⟨rfl, rfl, rfl, by decide +kernel, rfl, by decide +kernel, by decide +kernel⟩
abbrev iJ : Stmt := top 48
theorem sr : aC ["number", "upto"] ["number", "upto"] (defScope iJ) := ⟨rfl, rfl, rfl, by decide +kernel, rfl, by decide +kernel, by decide +kernel⟩
abbrev gB : Stmt := top 49
theorem qd : aC ["tables"] ["tables"] (defScope gB) := ⟨rfl, rfl, rfl, by decide +kernel, rfl, by decide +kernel, by decide +kernel⟩
abbrev cz : Stmt := top 50
theorem lK : aC ["tables", "nodes"] ["tables"] (defScope cz) := ⟨rfl, rfl, rfl, by decide +kernel, rfl, by decide +kernel, by decide +kernel⟩
abbrev qU : Stmt := top 51
theorem Aa : aC ["tables", "look", "at"] ["tables", "look", "at"] (defScope qU) := ⟨rfl, rfl, rfl, by decide +kernel, rfl, by decide +kernel, by decide +kernel⟩
abbrev qI : Stmt := top 52
theorem jU : aC ["tables", "look", "at", "upto", "first", "last", "lows"] ["tables", "look", "at", "upto"] (defScope qI) := ⟨rfl, rfl, rfl, by decide +kernel, rfl, by decide +kernel, by decide +kernel⟩
abbrev eZ : Stmt := top 53
theorem iw : aC ["tables", "look", "number", "at", "upto", "nets"] ["tables", "look", "number", "at", "upto"] (defScope eZ) := ⟨rfl, rfl, rfl, by decide +kernel, rfl, by decide +kernel, by decide +kernel⟩
abbrev jb : Stmt := top 54
theorem dW : aC ["tables", "look", "at", "goal", "number", "found", "further"] ["tables", "look", "at", "goal"] (defScope jb) := ⟨rfl, rfl, rfl, by decide +kernel, rfl, by decide +kernel, by decide +kernel⟩
abbrev fY : Stmt := top 55
theorem fu : aC ["tables", "look", "number", "at", "goal", "start", "stop"] ["tables", "look", "number", "at", "goal"] (defScope fY) := ⟨rfl, rfl, rfl, by decide +kernel, rfl, by decide +kernel, by decide +kernel⟩
abbrev fW : Stmt := top 56
theorem pO : aC ["number", "within"] ["number", "within"] (defScope fW) := ⟨rfl, rfl, rfl, by decide +kernel, rfl, by decide +kernel, by decide +kernel⟩
abbrev jL : Stmt := top 57
theorem lM : aC ["tables", "look", "at", "goal", "found"] ["tables", "look", "at", "goal"] (defScope jL) := ⟨rfl, rfl, rfl, by decide +kernel, rfl, by decide +kernel, by decide +kernel⟩
abbrev eU : Stmt := top 58
theorem cZ : aC ["tables", "look", "upto", "goal", "number", "found", "further"] ["tables", "look", "upto", "goal"] (defScope eU) := ⟨rfl, rfl, rfl, by decide +kernel, rfl, by decide +kernel, by decide +kernel⟩
abbrev gH : Stmt := top 59
theorem jz : aC ["tables", "look", "number", "upto", "goal", "stop"] ["tables", "look", "number", "upto", "goal"] (defScope gH) := ⟨rfl, rfl, rfl, by decide +kernel, rfl, by decide +kernel, by decide +kernel⟩
abbrev fc : Stmt := top 60
theorem n8 : aC ["tables", "look", "at", "bit"] ["tables", "look", "at", "bit"] (defScope fc) := ⟨rfl, rfl, rfl, by decide +kernel, rfl, by decide +kernel, by decide +kernel⟩
abbrev nC : Stmt := top 61
theorem xQ : aC ["tables", "look", "at"] ["tables", "look", "at"] (defScope nC) := ⟨rfl, rfl, rfl, by decide +kernel, rfl, by decide +kernel, by decide +kernel⟩
abbrev nU : Stmt := top 62
theorem xJ : aC ["tables", "look", "at"] ["tables", "look", "at"] (defScope nU) := ⟨rfl, rfl, rfl, by decide +kernel, rfl, by decide +kernel, by decide +kernel⟩
abbrev gM : Stmt := top 63
theorem q9 : aC ["tables", "look", "at", "pairs"] ["tables", "look", "at", "pairs"] (defScope gM) := ⟨rfl, rfl, rfl, by decide +kernel, rfl, by decide +kernel, by decide +kernel⟩
abbrev iK : Stmt := top 65
theorem rY : aC ["tables"] ["tables"] (defScope iK) := ⟨rfl, rfl, rfl, by decide +kernel, rfl, by decide +kernel, by decide +kernel⟩
abbrev iC : Stmt := top 66
theorem rO : aC ["tables", "node"] ["tables", "node"] (defScope iC) := ⟨rfl, rfl, rfl, by decide +kernel, rfl, by decide +kernel, by decide +kernel⟩
abbrev nQ : Stmt := top 67
theorem xV : aC ["tables", "look", "at"] ["tables", "look", "at"] (defScope nQ) := ⟨rfl, rfl, rfl, by decide +kernel, rfl, by decide +kernel, by decide +kernel⟩
abbrev lg : Stmt := top 68
theorem u9 : aC ["tables", "look", "node"] ["tables", "look", "node"] (defScope lg) := ⟨rfl, rfl, rfl, by decide +kernel, rfl, by decide +kernel, by decide +kernel⟩
abbrev kj : Stmt := top 69
theorem v6 : aC ["tables", "look", "node"] ["tables", "look", "node"] (defScope kj) := ⟨rfl, rfl, rfl, by decide +kernel, rfl, by decide +kernel, by decide +kernel⟩
abbrev lF : Stmt := top 70
theorem wQ : aC ["tables", "look", "node"] ["tables", "look", "node"] (defScope lF) := ⟨rfl, rfl, rfl, by decide +kernel, rfl, by decide +kernel, by decide +kernel⟩
abbrev lE : Stmt := top 71
theorem pG : aC ["tables", "look", "node", "behind"] ["tables", "look", "node"] (defScope lE) := ⟨rfl, rfl, rfl, by decide +kernel, rfl, by decide +kernel, by decide +kernel⟩
abbrev iZ : Stmt := top 72
theorem j8 : aC ["tables", "look", "node", "behind"] ["tables", "look", "node"] (defScope iZ) := ⟨rfl, rfl, rfl, by decide +kernel, rfl, by decide +kernel, by decide +kernel⟩
abbrev lG : Stmt := top 73
theorem o5 : aC ["tables", "look", "node", "ahead"] ["tables", "look", "node"] (defScope lG) := ⟨rfl, rfl, rfl, by decide +kernel, rfl, by decide +kernel, by decide +kernel⟩
abbrev iH : Stmt := top 74
theorem j0 : aC ["tables", "look", "node", "at"] ["tables", "look", "node"] (defScope iH) := ⟨rfl, rfl, rfl, by decide +kernel, rfl, by decide +kernel, by decide +kernel⟩
abbrev uJ : Stmt := top 75
theorem vO : aC ["tables", "look", "node", "steps", "at"] ["tables", "look", "node", "steps"] (defScope uJ) := ⟨rfl, rfl, rfl, by decide +kernel, rfl, by decide +kernel, by decide +kernel⟩
abbrev oX : Stmt := top 76
theorem qP : aC ["tables", "look", "one", "other", "last"] ["tables", "look", "one", "other"] (defScope oX) := ⟨rfl, rfl, rfl, by decide +kernel, rfl, by decide +kernel, by decide +kernel⟩
abbrev jD : Stmt := top 77
theorem dM : aC ["tables", "look", "one", "other", "node", "first", "last", "depth"] ["tables", "look", "one", "other"] (defScope jD) := ⟨rfl, rfl, rfl, by decide +kernel, rfl, by decide +kernel, by decide +kernel⟩
abbrev gq : Stmt := top 80
theorem eY : aC ["depths", "ahead", "depth"] ["depths"] (defScope gq) := ⟨rfl, rfl, rfl, by decide +kernel, rfl, by decide +kernel, by decide +kernel⟩
abbrev gG : Stmt := top 81
theorem cT : aC ["depths", "bits", "unclosed", "depth"] ["depths"] (defScope gG) := ⟨rfl, rfl, rfl, by decide +kernel, rfl, by decide +kernel, by decide +kernel⟩
abbrev jJ : Stmt := top 82
theorem ul : aC ["depths"] ["depths"] (defScope jJ) := ⟨rfl, rfl, rfl, by decide +kernel, rfl, by decide +kernel, by decide +kernel⟩
abbrev jm : Stmt := top 84
theorem uB : aC ["_law_found"] ["_law_found"] (defScope jm) := ⟨rfl, rfl, rfl, by decide +kernel, rfl, by decide +kernel, by decide +kernel⟩
abbrev jx : Stmt := top 85
theorem my : aC ["_law_cell", "_law_long"] ["_law_cell"] (defScope jx) := ⟨rfl, rfl, rfl, by decide +kernel, rfl, by decide +kernel, by decide +kernel⟩
abbrev iR : Stmt := top 86
theorem bB : aC ["_law_cells", "_law_depths_here", "_law_cell", "_law_number", "_law_many", "_law_up_here", "_law_k", "_law_deep"] ["_law_cells"] (defScope iR) := ⟨rfl, rfl, rfl, by decide +kernel, rfl, by decide +kernel, by decide +kernel⟩
abbrev lz : Stmt := top 87
theorem cu : aC ["_law_depths_here", "_law_rows_here", "_law_last", "_law_k", "_law_deep", "_law_older", "_law_elder"] ["_law_depths_here"] (defScope lz) := ⟨rfl, rfl, rfl, by decide +kernel, rfl, by decide +kernel, by decide +kernel⟩
abbrev rB : Stmt := top 88
theorem oE : aC ["_law_rows_here", "_law_node", "_law_steps", "_law_k"] ["_law_rows_here", "_law_node", "_law_steps"] (defScope rB) := ⟨rfl, rfl, rfl, by decide +kernel, rfl, by decide +kernel, by decide +kernel⟩
abbrev nu : Stmt := top 89
theorem rF : aC ["_law_rows_here", "_law_way", "_law_one", "_law_other"] ["_law_rows_here", "_law_way", "_law_one", "_law_other"] (defScope nu) := ⟨rfl, rfl, rfl, by decide +kernel, rfl, by decide +kernel, by decide +kernel⟩
abbrev jM : Stmt := top 90
theorem uz : aC ["_law_tables", "_law_look_here", "_law_way", "_law_one", "_law_other"] ["_law_tables", "_law_look_here", "_law_way", "_law_one", "_law_other"] (defScope jM) := ⟨rfl, rfl, rfl, by decide +kernel, rfl, by decide +kernel, by decide +kernel⟩
abbrev kI : Stmt := top 91
theorem vG : aC ["_law_found", "_law_due_here"] ["_law_found", "_law_due_here"] (defScope kI) := ⟨rfl, rfl, rfl, by decide +kernel, rfl, by decide +kernel, by decide +kernel⟩
abbrev cJ : Stmt := top 92
theorem ph : aC ["_law_blocks", "_law_seen", "_law_look_here"] ["_law_blocks", "_law_seen"] (defScope cJ) := ⟨rfl, rfl, rfl, by decide +kernel, rfl, by decide +kernel, by decide +kernel⟩
abbrev oH : Stmt := top 93
theorem rC : aC ["_law_seen", "_law_blocks", "_law_most", "_law_number"] ["_law_seen", "_law_blocks", "_law_most"] (defScope oH) := ⟨rfl, rfl, rfl, by decide +kernel, rfl, by decide +kernel, by decide +kernel⟩
abbrev lD : Stmt := top 94
theorem bI : aC ["_law_tree", "_law_cell", "_law_tables", "_law_blocks", "_law_rows_here", "_law_number", "_law_way", "_law_one", "_law_other", "_law_seen", "_law_look_here", "_law_found"] ["_law_tree", "_law_cell"] (defScope lD) := ⟨rfl, rfl, rfl, by decide +kernel, rfl, by decide +kernel, by decide +kernel⟩
abbrev Bt : Stmt := top 95
theorem gj : aC ["_law_script", "_law_trees", "_law_lists", "_law_cells", "_law_depths_here", "_law_tables", "_law_blocks", "_law_kept", "_law_cell"] ["_law_script"] (defScope Bt) := ⟨rfl, rfl, rfl, by decide +kernel, rfl, by decide +kernel, by decide +kernel⟩
abbrev bH : Stmt := (defBody cz).getD 1 (.Pass ⟨0, 0, 0, 0⟩)
abbrev bh : rz := lamOf bH "heap_look.<locals>.<lambda>" ["node"] ["nodes"]
theorem oV : qD ["node", "nodes"] bh := ⟨rfl, rfl, rfl, by decide +kernel, rfl, by decide +kernel, by decide +kernel, by decide +kernel, by decide +kernel⟩
theorem uX : Cm ["tables", "nodes"] "heap_look" (defScope cz) bh [1] (fun L => [L + 1]) := ⟨fun _ _ _ => rfl, fun _ _ _ => rfl, fun _ _ _ => rfl, fun L => by simp, fun _ => rfl, fun L f c j a h => match j, h with | 0, h => ⟨"nodes", 1, by cases h; rfl, by decide +kernel, rfl, rfl⟩ | j + 1, h => absurd h (by simp)⟩
abbrev cQ : Stmt := (defBody cJ).getD 0 (.Pass ⟨0, 0, 0, 0⟩)
abbrev bA : qW := Gi cQ "_law_look.<locals>._law_look_here" ["_law_number"] ["_law_seen", "_law_blocks"]
theorem mX : rH ["_law_number", "_law_seen", "_law_blocks"] bA := ⟨rfl, rfl, rfl, by decide +kernel, rfl, by decide +kernel, by decide +kernel, by decide +kernel, by decide +kernel⟩
theorem wN : Fl ["_law_blocks", "_law_seen", "_law_look_here"] "_law_look" (defScope cJ) bA 2 [1, 0] (fun L => [L + 2, L + 1]) := ⟨ph.nd, rfl, by decide +kernel, fun _ _ _ => rfl, fun _ _ _ => rfl, rfl, rfl, fun _ _ _ => rfl, fun L => by simp, fun _ => rfl, fun L f c j a h => match j, h with | 0, h => ⟨"_law_seen", 1, by cases h; rfl, by decide +kernel, rfl, rfl, by decide⟩ | 1, h => ⟨"_law_blocks", 0, by cases h; rfl, by decide +kernel, rfl, rfl, by decide⟩ | j + 2, h => absurd h (by simp), by decide, by decide⟩
structure FI (K : PySem.W.Frag) (n : Str) (st : Stmt) (f : Addr) (fd : FuncData) : Prop where
 a : PySem.W.nsIn K mainGlobals n = some (some (.ref f))
 F : Fun K n n st f fd
theorem Ei {α : Type} {C : List α → Prop} {us : List α} (hl : us.length = 1) (h : ∀ x0, C [x0]) : C us := match us, hl with | [_], _ => h _
theorem df1 {K : PySem.W.Frag} {h : Heap} {mg : Str → Option Value} {n p0 : Str} {st : Stmt} {f : Addr} {fd : FuncData} (X : K.In h) (G : h.Ns mainGlobals mg) (d : FI K n st f fd) (b : ∀ (kV doc pm : Value) (an : Option Addr) (cdv ct : Value) (x0 : Value), bindArgs (PySem.W.fnOf n n (defArgs st) (defBody st) (defScope st) .none kV doc pm an cdv ct) ⟨[x0], []⟩ = pure (List.zip [p0] [x0])) : Df K mg n st [p0] f fd := ⟨d.F, d.F.binds (ps := [p0]) fun kV doc pm an cdv ct us hl => Ei (C := fun us => bindArgs _ ⟨us, []⟩ = pure (List.zip ([p0] : List Str) us)) hl (b kV doc pm an cdv ct), PySem.W.mg_of X G d.a⟩
theorem Ea {α : Type} {C : List α → Prop} {us : List α} (hl : us.length = 2) (h : ∀ x0 x1, C [x0, x1]) : C us := match us, hl with | [_, _], _ => h _ _
theorem df2 {K : PySem.W.Frag} {h : Heap} {mg : Str → Option Value} {n p0 p1 : Str} {st : Stmt} {f : Addr} {fd : FuncData} (X : K.In h) (G : h.Ns mainGlobals mg) (d : FI K n st f fd) (b : ∀ (kV doc pm : Value) (an : Option Addr) (cdv ct : Value) (x0 x1 : Value), bindArgs (PySem.W.fnOf n n (defArgs st) (defBody st) (defScope st) .none kV doc pm an cdv ct) ⟨[x0, x1], []⟩ = pure (List.zip [p0, p1] [x0, x1])) : Df K mg n st [p0, p1] f fd := ⟨d.F, d.F.binds (ps := [p0, p1]) fun kV doc pm an cdv ct us hl => Ea (C := fun us => bindArgs _ ⟨us, []⟩ = pure (List.zip ([p0, p1] : List Str) us)) hl (b kV doc pm an cdv ct), PySem.W.mg_of X G d.a⟩
theorem Gm {α : Type} {C : List α → Prop} {us : List α} (hl : us.length = 3) (h : ∀ x0 x1 x2, C [x0, x1, x2]) : C us := match us, hl with | [_, _, _], _ => h _ _ _
theorem df3 {K : PySem.W.Frag} {h : Heap} {mg : Str → Option Value} {n p0 p1 p2 : Str} {st : Stmt} {f : Addr} {fd : FuncData} (X : K.In h) (G : h.Ns mainGlobals mg) (d : FI K n st f fd) (b : ∀ (kV doc pm : Value) (an : Option Addr) (cdv ct : Value) (x0 x1 x2 : Value), bindArgs (PySem.W.fnOf n n (defArgs st) (defBody st) (defScope st) .none kV doc pm an cdv ct) ⟨[x0, x1, x2], []⟩ = pure (List.zip [p0, p1, p2] [x0, x1, x2])) : Df K mg n st [p0, p1, p2] f fd := ⟨d.F, d.F.binds (ps := [p0, p1, p2]) fun kV doc pm an cdv ct us hl => Gm (C := fun us => bindArgs _ ⟨us, []⟩ = pure (List.zip ([p0, p1, p2] : List Str) us)) hl (b kV doc pm an cdv ct), PySem.W.mg_of X G d.a⟩
theorem Gp {α : Type} {C : List α → Prop} {us : List α} (hl : us.length = 4) (h : ∀ x0 x1 x2 x3, C [x0, x1, x2, x3]) : C us := match us, hl with | [_, _, _, _], _ => h _ _ _ _
theorem df4 {K : PySem.W.Frag} {h : Heap} {mg : Str → Option Value} {n p0 p1 p2 p3 : Str} {st : Stmt} {f : Addr} {fd : FuncData} (X : K.In h) (G : h.Ns mainGlobals mg) (d : FI K n st f fd) (b : ∀ (kV doc pm : Value) (an : Option Addr) (cdv ct : Value) (x0 x1 x2 x3 : Value), bindArgs (PySem.W.fnOf n n (defArgs st) (defBody st) (defScope st) .none kV doc pm an cdv ct) ⟨[x0, x1, x2, x3], []⟩ = pure (List.zip [p0, p1, p2, p3] [x0, x1, x2, x3])) : Df K mg n st [p0, p1, p2, p3] f fd := ⟨d.F, d.F.binds (ps := [p0, p1, p2, p3]) fun kV doc pm an cdv ct us hl => Gp (C := fun us => bindArgs _ ⟨us, []⟩ = pure (List.zip ([p0, p1, p2, p3] : List Str) us)) hl (b kV doc pm an cdv ct), PySem.W.mg_of X G d.a⟩
theorem G3 {α : Type} {C : List α → Prop} {us : List α} (hl : us.length = 5) (h : ∀ x0 x1 x2 x3 x4, C [x0, x1, x2, x3, x4]) : C us := match us, hl with | [_, _, _, _, _], _ => h _ _ _ _ _
theorem df5 {K : PySem.W.Frag} {h : Heap} {mg : Str → Option Value} {n p0 p1 p2 p3 p4 : Str} {st : Stmt} {f : Addr} {fd : FuncData} (X : K.In h) (G : h.Ns mainGlobals mg) (d : FI K n st f fd) (b : ∀ (kV doc pm : Value) (an : Option Addr) (cdv ct : Value) (x0 x1 x2 x3 x4 : Value), bindArgs (PySem.W.fnOf n n (defArgs st) (defBody st) (defScope st) .none kV doc pm an cdv ct) ⟨[x0, x1, x2, x3, x4], []⟩ = pure (List.zip [p0, p1, p2, p3, p4] [x0, x1, x2, x3, x4])) : Df K mg n st [p0, p1, p2, p3, p4] f fd := ⟨d.F, d.F.binds (ps := [p0, p1, p2, p3, p4]) fun kV doc pm an cdv ct us hl => G3 (C := fun us => bindArgs _ ⟨us, []⟩ = pure (List.zip ([p0, p1, p2, p3, p4] : List Str) us)) hl (b kV doc pm an cdv ct), PySem.W.mg_of X G d.a⟩
set_option genInjectivity false in
set_option genSizeOf false in
structure Ad where
 tc_heap_look : Addr
 tP_heap_look : Addr
 tc_law_look : Addr
 tP_law_look : Addr
 f_packed : Addr
 fd_packed : FuncData
 f_check_row : Addr
 fd_check_row : FuncData
 f_block_of : Addr
 fd_block_of : FuncData
 f_bit_in : Addr
 fd_bit_in : FuncData
 f_bits_of : Addr
 fd_bits_of : FuncData
 f_ones_in : Addr
 fd_ones_in : FuncData
 f_one_in : Addr
 fd_one_in : FuncData
 f_nets_of : Addr
 fd_nets_of : FuncData
 f_low_in : Addr
 fd_low_in : FuncData
 f_first_low_in : Addr
 fd_first_low_in : FuncData
 f_last_low_in : Addr
 fd_last_low_in : FuncData
 f_heap_of : Addr
 fd_heap_of : FuncData
 f_size_of : Addr
 fd_size_of : FuncData
 f_lesser_of : Addr
 fd_lesser_of : FuncData
 f_least_of : Addr
 fd_least_of : FuncData
 f_first_at_most : Addr
 fd_first_at_most : FuncData
 f_last_at_most : Addr
 fd_last_at_most : FuncData
 f_place_beneath : Addr
 fd_place_beneath : FuncData
 f_check_stretch : Addr
 fd_check_stretch : FuncData
 f_cover : Addr
 fd_cover : FuncData
 f_kept_row : Addr
 fd_kept_row : FuncData
 f_ahead_of : Addr
 fd_ahead_of : FuncData
 f_check_place : Addr
 fd_check_place : FuncData
 f_bit_at : Addr
 fd_bit_at : FuncData
 f_ones_at : Addr
 fd_ones_at : FuncData
 f_one_place : Addr
 fd_one_place : FuncData
 f_check_nth : Addr
 fd_check_nth : FuncData
 f_last_no_greater : Addr
 fd_last_no_greater : FuncData
 f_is_tree : Addr
 fd_is_tree : FuncData
 f_check_brackets : Addr
 fd_check_brackets : FuncData
 f_kept_brackets : Addr
 fd_kept_brackets : FuncData
 f_low_of : Addr
 fd_low_of : FuncData
 f_base_of : Addr
 fd_base_of : FuncData
 f_start_within : Addr
 fd_start_within : FuncData
 f_end_within : Addr
 fd_end_within : FuncData
 f_block_count : Addr
 fd_block_count : FuncData
 f_heap_look : Addr
 fd_heap_look : FuncData
 f_height : Addr
 fd_height : FuncData
 f_lowest : Addr
 fd_lowest : FuncData
 f_lowest_within : Addr
 fd_lowest_within : FuncData
 f_low_behind : Addr
 fd_low_behind : FuncData
 f_first_within : Addr
 fd_first_within : FuncData
 f_place_of_bit : Addr
 fd_place_of_bit : FuncData
 f_low_ahead : Addr
 fd_low_ahead : FuncData
 f_last_low_upto : Addr
 fd_last_low_upto : FuncData
 f_last_within : Addr
 fd_last_within : FuncData
 f_check_bracket : Addr
 fd_check_bracket : FuncData
 f_closing : Addr
 fd_closing : FuncData
 f_opening : Addr
 fd_opening : FuncData
 f_further_out : Addr
 fd_further_out : FuncData
 f_node_count : Addr
 fd_node_count : FuncData
 f_check_node : Addr
 fd_check_node : FuncData
 f_node_at : Addr
 fd_node_at : FuncData
 f_place_of : Addr
 fd_place_of : FuncData
 f_depth_of : Addr
 fd_depth_of : FuncData
 f_elder_of : Addr
 fd_elder_of : FuncData
 f_first_of : Addr
 fd_first_of : FuncData
 f_younger_of : Addr
 fd_younger_of : FuncData
 f_older_of : Addr
 fd_older_of : FuncData
 f_beneath_of : Addr
 fd_beneath_of : FuncData
 f_up_of : Addr
 fd_up_of : FuncData
 f_is_over : Addr
 fd_is_over : FuncData
 f_common_of : Addr
 fd_common_of : FuncData
 f_check_depths : Addr
 fd_check_depths : FuncData
 f_brackets_of : Addr
 fd_brackets_of : FuncData
 f_kept_tree : Addr
 fd_kept_tree : FuncData
 f_law_whole : Addr
 fd_law_whole : FuncData
 f_law_great : Addr
 fd_law_great : FuncData
 f_law_depths : Addr
 fd_law_depths : FuncData
 f_law_rows : Addr
 fd_law_rows : FuncData
 f_law_up : Addr
 fd_law_up : FuncData
 f_law_due : Addr
 fd_law_due : FuncData
 f_law_asked : Addr
 fd_law_asked : FuncData
 f_law_same : Addr
 fd_law_same : FuncData
 f_law_look : Addr
 fd_law_look : FuncData
 f_law_few : Addr
 fd_law_few : FuncData
 f_law_good : Addr
 fd_law_good : FuncData
 f_law : Addr
 fd_law : FuncData
 t_BLOCK_BITS : Tok
 t_MOST_BITS : Tok
 t_MOST_NODES : Tok
 t_MOST_NUMBERS : Tok
 c_NoNode : Addr
structure Tx (K : PySem.W.Frag) (mg : Str → Option Value) (a : Ad) : Prop where
 D_packed : Df K mg "packed" qL ["bits"] a.f_packed a.fd_packed
 D_check_row : Df K mg "check_row" jy ["bits"] a.f_check_row a.fd_check_row
 D_block_of : Df K mg "block_of" lJ ["bits"] a.f_block_of a.fd_block_of
 D_bit_in : Df K mg "bit_in" qx ["block", "k"] a.f_bit_in a.fd_bit_in
 D_bits_of : Df K mg "bits_of" m5 ["block", "upto"] a.f_bits_of a.fd_bits_of
 D_ones_in : Df K mg "ones_in" m8 ["block", "upto"] a.f_ones_in a.fd_ones_in
 D_one_in : Df K mg "one_in" rE ["block", "nth"] a.f_one_in a.fd_one_in
 D_nets_of : Df K mg "nets_of" oF ["block", "upto"] a.f_nets_of a.fd_nets_of
 D_low_in : Df K mg "low_in" qC ["block", "upto"] a.f_low_in a.fd_low_in
 D_first_low_in : Df K mg "first_low_in" gb ["block", "start", "stop", "goal"] a.f_first_low_in a.fd_first_low_in
 D_last_low_in : Df K mg "last_low_in" gD ["block", "start", "stop", "goal"] a.f_last_low_in a.fd_last_low_in
 D_heap_of : Df K mg "heap_of" m7 ["numbers"] a.f_heap_of a.fd_heap_of
 D_size_of : Df K mg "size_of" n6 ["many"] a.f_size_of a.fd_size_of
 D_lesser_of : Df K mg "lesser_of" jq ["one", "other"] a.f_lesser_of a.fd_lesser_of
 D_least_of : Df K mg "least_of" kW ["many", "look", "start", "stop"] a.f_least_of a.fd_least_of
 D_first_at_most : Df K mg "first_at_most" eQ ["many", "look", "start", "goal"] a.f_first_at_most a.fd_first_at_most
 D_last_at_most : Df K mg "last_at_most" gm ["many", "look", "stop", "goal"] a.f_last_at_most a.fd_last_at_most
 D_place_beneath : Df K mg "place_beneath" eV ["size", "look", "node", "goal", "side"] a.f_place_beneath a.fd_place_beneath
 D_check_stretch : Df K mg "check_stretch" fj ["many", "start", "stop"] a.f_check_stretch a.fd_check_stretch
 D_cover : Df K mg "cover" uQ ["many", "start", "stop"] a.f_cover a.fd_cover
 D_kept_row : Df K mg "kept_row" kJ ["bits"] a.f_kept_row a.fd_kept_row
 D_ahead_of : Df K mg "ahead_of" kO ["blocks"] a.f_ahead_of a.fd_ahead_of
 D_check_place : Df K mg "check_place" gJ ["at", "most"] a.f_check_place a.fd_check_place
 D_bit_at : Df K mg "bit_at" qQ ["tables", "look", "at"] a.f_bit_at a.fd_bit_at
 D_ones_at : Df K mg "ones_at" oW ["tables", "look", "at"] a.f_ones_at a.fd_ones_at
 D_one_place : Df K mg "one_place" jt ["tables", "look", "nth"] a.f_one_place a.fd_one_place
 D_check_nth : Df K mg "check_nth" jH ["nth", "many"] a.f_check_nth a.fd_check_nth
 D_last_no_greater : Df K mg "last_no_greater" dI ["numbers", "goal"] a.f_last_no_greater a.fd_last_no_greater
 D_is_tree : Df K mg "is_tree" oG ["bits"] a.f_is_tree a.fd_is_tree
 D_check_brackets : Df K mg "check_brackets" dO ["bits"] a.f_check_brackets a.fd_check_brackets
 D_kept_brackets : Df K mg "kept_brackets" eX ["bits"] a.f_kept_brackets a.fd_kept_brackets
 D_low_of : Df K mg "low_of" qw ["tables", "number", "block"] a.f_low_of a.fd_low_of
 D_base_of : Df K mg "base_of" oY ["tables", "number"] a.f_base_of a.fd_base_of
 D_start_within : Df K mg "start_within" fM ["number", "at"] a.f_start_within a.fd_start_within
 D_end_within : Df K mg "end_within" iJ ["number", "upto"] a.f_end_within a.fd_end_within
 D_block_count : Df K mg "block_count" gB ["tables"] a.f_block_count a.fd_block_count
 D_heap_look : Df K mg "heap_look" cz ["tables"] a.f_heap_look a.fd_heap_look
 D_height : Df K mg "height" qU ["tables", "look", "at"] a.f_height a.fd_height
 D_lowest : Df K mg "lowest" qI ["tables", "look", "at", "upto"] a.f_lowest a.fd_lowest
 D_lowest_within : Df K mg "lowest_within" eZ ["tables", "look", "number", "at", "upto"] a.f_lowest_within a.fd_lowest_within
 D_low_behind : Df K mg "low_behind" jb ["tables", "look", "at", "goal"] a.f_low_behind a.fd_low_behind
 D_first_within : Df K mg "first_within" fY ["tables", "look", "number", "at", "goal"] a.f_first_within a.fd_first_within
 D_place_of_bit : Df K mg "place_of_bit" fW ["number", "within"] a.f_place_of_bit a.fd_place_of_bit
 D_low_ahead : Df K mg "low_ahead" jL ["tables", "look", "at", "goal"] a.f_low_ahead a.fd_low_ahead
 D_last_low_upto : Df K mg "last_low_upto" eU ["tables", "look", "upto", "goal"] a.f_last_low_upto a.fd_last_low_upto
 D_last_within : Df K mg "last_within" gH ["tables", "look", "number", "upto", "goal"] a.f_last_within a.fd_last_within
 D_check_bracket : Df K mg "check_bracket" fc ["tables", "look", "at", "bit"] a.f_check_bracket a.fd_check_bracket
 D_closing : Df K mg "closing" nC ["tables", "look", "at"] a.f_closing a.fd_closing
 D_opening : Df K mg "opening" nU ["tables", "look", "at"] a.f_opening a.fd_opening
 D_further_out : Df K mg "further_out" gM ["tables", "look", "at", "pairs"] a.f_further_out a.fd_further_out
 D_node_count : Df K mg "node_count" iK ["tables"] a.f_node_count a.fd_node_count
 D_check_node : Df K mg "check_node" iC ["tables", "node"] a.f_check_node a.fd_check_node
 D_node_at : Df K mg "node_at" nQ ["tables", "look", "at"] a.f_node_at a.fd_node_at
 D_place_of : Df K mg "place_of" lg ["tables", "look", "node"] a.f_place_of a.fd_place_of
 D_depth_of : Df K mg "depth_of" kj ["tables", "look", "node"] a.f_depth_of a.fd_depth_of
 D_elder_of : Df K mg "elder_of" lF ["tables", "look", "node"] a.f_elder_of a.fd_elder_of
 D_first_of : Df K mg "first_of" lE ["tables", "look", "node"] a.f_first_of a.fd_first_of
 D_younger_of : Df K mg "younger_of" iZ ["tables", "look", "node"] a.f_younger_of a.fd_younger_of
 D_older_of : Df K mg "older_of" lG ["tables", "look", "node"] a.f_older_of a.fd_older_of
 D_beneath_of : Df K mg "beneath_of" iH ["tables", "look", "node"] a.f_beneath_of a.fd_beneath_of
 D_up_of : Df K mg "up_of" uJ ["tables", "look", "node", "steps"] a.f_up_of a.fd_up_of
 D_is_over : Df K mg "is_over" oX ["tables", "look", "one", "other"] a.f_is_over a.fd_is_over
 D_common_of : Df K mg "common_of" jD ["tables", "look", "one", "other"] a.f_common_of a.fd_common_of
 D_check_depths : Df K mg "check_depths" gq ["depths"] a.f_check_depths a.fd_check_depths
 D_brackets_of : Df K mg "brackets_of" gG ["depths"] a.f_brackets_of a.fd_brackets_of
 D_kept_tree : Df K mg "kept_tree" jJ ["depths"] a.f_kept_tree a.fd_kept_tree
 D_law_whole : Df K mg "_law_whole" jm ["_law_found"] a.f_law_whole a.fd_law_whole
 D_law_great : Df K mg "_law_great" jx ["_law_cell"] a.f_law_great a.fd_law_great
 D_law_depths : Df K mg "_law_depths" iR ["_law_cells"] a.f_law_depths a.fd_law_depths
 D_law_rows : Df K mg "_law_rows" lz ["_law_depths_here"] a.f_law_rows a.fd_law_rows
 D_law_up : Df K mg "_law_up" rB ["_law_rows_here", "_law_node", "_law_steps"] a.f_law_up a.fd_law_up
 D_law_due : Df K mg "_law_due" nu ["_law_rows_here", "_law_way", "_law_one", "_law_other"] a.f_law_due a.fd_law_due
 D_law_asked : Df K mg "_law_asked" jM ["_law_tables", "_law_look_here", "_law_way", "_law_one", "_law_other"] a.f_law_asked a.fd_law_asked
 D_law_same : Df K mg "_law_same" kI ["_law_found", "_law_due_here"] a.f_law_same a.fd_law_same
 D_law_look : Df K mg "_law_look" cJ ["_law_blocks", "_law_seen"] a.f_law_look a.fd_law_look
 D_law_few : Df K mg "_law_few" oH ["_law_seen", "_law_blocks", "_law_most"] a.f_law_few a.fd_law_few
 D_law_good : Df K mg "_law_good" lD ["_law_tree", "_law_cell"] a.f_law_good a.fd_law_good
 D_law : Df K mg "law" Bt ["_law_script"] a.f_law a.fd_law
 b_bool : mg "bool" = none
 b_enumerate : mg "enumerate" = none
 b_int : mg "int" = none
 b_isinstance : mg "isinstance" = none
 b_len : mg "len" = none
 b_list : mg "list" = none
 b_max : mg "max" = none
 b_min : mg "min" = none
 b_range : mg "range" = none
 b_reversed : mg "reversed" = none
 b_set : mg "set" = none
 b_sum : mg "sum" = none
 b_tuple : mg "tuple" = none
 b_zip : mg "zip" = none
 c_BLOCK_BITS : mg "BLOCK_BITS" = some (.int 32 a.t_BLOCK_BITS)
 c_MOST_BITS : mg "MOST_BITS" = some (.int 4096 a.t_MOST_BITS)
 c_MOST_NODES : mg "MOST_NODES" = some (.int 2048 a.t_MOST_NODES)
 c_MOST_NUMBERS : mg "MOST_NUMBERS" = some (.int 4096 a.t_MOST_NUMBERS)
 g_NoNode : mg "NoNode" = some (.ref a.c_NoNode)
 x_NoNode : Exc K mg "NoNode" a.c_NoNode
 k_NoNode : Hf K a.c_NoNode
 i_NoNode_NoNode : PySem.W.kitOne K (.ref a.c_NoNode) (.ref a.c_NoNode) = some true
 i_NoNode_ValueError : PySem.W.kitOne K (.ref a.c_NoNode) (.type "ValueError") = some true
 w_heap_look : a.fd_heap_look.code = .ref a.tc_heap_look
 w_law_look : a.fd_law_look.code = .ref a.tc_law_look
structure Bs (mg : Str → Option Value) (base : Heap) (a : Ad) : Prop where
 bm : BMain mg base
 C_heap_look : PySem.W.CodeHd base a.tc_heap_look a.tP_heap_look
 C_law_look : PySem.W.CodeHd base a.tc_law_look a.tP_law_look
 N_heap_look_law_look : a.tP_heap_look ≠ a.tP_law_look
theorem jj.out {H : Hp} {f b : Addr} {c : qW} {cs : List Addr} {fvs : List V} {xs : List V} (h : jj H f c cs fvs) (e : H b = some (.lst xs)) : b ∉ cs := fun z => by
 obtain ⟨i, hi⟩ := List.getElem?_of_mem z
 obtain ⟨co, v, u, _, e2, _⟩ := h.cells i b hi
 rw [e] at e2
 cases e2
theorem TabAt.same {H H' : Hp} {P : Addr} {pos : Pos} {q : Str} (h : TabAt H P pos q) (s : aY H H') : TabAt H' P pos q := by
 obtain ⟨ps, h1, h2, h3⟩ := h
 refine ⟨ps, s _ _ h1, h2, ?_⟩
 rcases h3 with h3 | ⟨cd, oc, vs, t, h4, h5, h6⟩
 ·exact .inl h3
 ·exact .inr ⟨cd, oc, vs, t, h4, s _ _ h5, h6⟩
def yL (P : Addr) (H H' : Hp) : Prop := ∀ b o, H b = some o → b ≠ P → H' b = some o
theorem TabAt.ne {H : Hp} {P b : Addr} {pos : Pos} {q : Str} {o : HO} (h : TabAt H P pos q) (e : H b = some o) (n : ∀ ps, o ≠ .tbl ps) : b ≠ P := fun z => by
 obtain ⟨ps, h1, _⟩ := h
 rw [z, h1] at e
 cases e
 exact n _ rfl
theorem TabAt.upd {H : Hp} {P x : Addr} {pos : Pos} {q : Str} {xs ys : List V} (h : TabAt H P pos q) (e : H x = some (.lst xs)) : TabAt (L2.upd H x (.lst ys)) P pos q := by
 obtain ⟨ps, h1, h2, h3⟩ := h
 have ne : ∀ b o, H b = some o → (∀ zs, o ≠ .lst zs) → L2.upd H x (.lst ys) b = some o := fun b o e2 n => by
  rw [aH (fun z => by rw [z, e] at e2; cases e2; exact n _ rfl)]
  exact e2
 refine ⟨ps, ne _ _ h1 nofun, h2, ?_⟩
 rcases h3 with h3 | ⟨cd, oc, vs, t, h4, h5, h6⟩
 ·exact .inl h3
 ·exact .inr ⟨cd, oc, vs, t, h4, ne _ _ h5 nofun, h6⟩
theorem Du {n j : Nat} (h : j < n) : ixN n (j : Int) = some j := by
 unfold ixN
 simp
 omega
theorem zf (k : Nat) (v : Int) : (List.replicate k [V.int v]).flatten = (List.replicate k v).map V.int := by
 induction k with
 | zero => rfl
 | succ k ih => rw [List.replicate_succ, List.flatten_cons, ih, List.replicate_succ]; rfl
def j9 (H : Hp) (f sn nd : Addr) : Prop := ∃ cs, jj H f bA cs [.ref sn, .ref nd]
theorem j9.fn {H : Hp} {f sn nd : Addr} (h : j9 H f sn nd) : ∃ o fd, H f = some (aO f o) ∧ o.data = .func fd := by
 obtain ⟨cs, ca⟩ := h
 obtain ⟨cd, doc, pm, ctv, oc, vs, t, h1, _⟩ := ca.ex
 exact ⟨_, _, h1, rfl⟩
theorem j9.same {H H' : Hp} {f sn nd : Addr} (h : j9 H f sn nd) (s : aY H H') : j9 H' f sn nd := by
 obtain ⟨cs, ca⟩ := h
 exact ⟨cs, ca.same fun b o e => s _ _ e⟩
theorem j9.upd {H : Hp} {f sn nd b : Addr} {xs ys : List V} (h : j9 H f sn nd) (e : H b = some (.lst xs)) : j9 (L2.upd H b (.lst ys)) f sn nd := by
 obtain ⟨cs, ca⟩ := h
 refine ⟨cs, ca.same fun c o e2 => ?_⟩
 rw [aH (fun z => by rw [z, e] at e2; cases e2)]
 exact e2
structure Asks (H : Hp) (f sn nd : Addr) (ss : List Int) (xs : List V) : Prop where
 look : j9 H f sn nd
 seen : H sn = some (.lst (ss.map V.int))
 nodes : H nd = some (.lst xs)
 ne : sn ≠ nd
 few : ss.length ≤ 1000
theorem Asks.same {H H' : Hp} {f sn nd : Addr} {ss : List Int} {xs : List V} (h : Asks H f sn nd ss xs) (s : aY H H') : Asks H' f sn nd ss xs := ⟨h.look.same s, s _ _ h.seen, s _ _ h.nodes, h.ne, h.few⟩
theorem Asks.more {H : Hp} {f sn nd : Addr} {ss tt : List Int} {xs : List V} (h : Asks H f sn nd ss xs) (hl : tt.length ≤ 1000) : Asks (L2.upd H sn (.lst (tt.map V.int))) f sn nd tt xs :=
 ⟨h.look.upd h.seen, au, by rw [aH h.ne.symm]; exact h.nodes, h.ne, hl⟩
section
variable {P : Program} {w : World} {K : PySem.W.Frag} {mg : Str → Option Value} {base : Heap} {a : Ad}
theorem Br (x : Int) : Builtin.bitAnd x 1 = x % 2 := by
 unfold Builtin.bitAnd
 by_cases hx : 0 ≤ x
 ·simp [hx]
  omega
 ·simp [hx]
  unfold Builtin.bitNot
  omega
def zr : Sp := fun vs H Q _ => ∃ (b k : Int), vs = [.int b, .int k] ∧ 0 ≤ k ∧ Q (.int (bit b k.toNat)) H
theorem tK (T : Tx K mg a) : bj P w K mg base CX0 1 a.f_bit_in a.fd_bit_in ["block", "k"] zr := by
 refine T.D_bit_in.F.ok zm (fun vs H Q E h => ?_) (fun cdv A outer s H vs Q E hr h => ?_)
 ·obtain ⟨b, k, rfl, _⟩ := h
  rfl
 obtain ⟨b, k, rfl, h0, q⟩ := h
 refine ⟨_, (aq (aB (az Ga (az Fq (pv 0) (pv 1)) ao))), ?_⟩
 refine ⟨_, rfl, _, rfl, _, _, rfl, rfl, h0, _, _, rfl, rfl, ?_⟩
 have e : Builtin.bitAnd (b / 2 ^ k.toNat) 1 = bit b k.toNat := Br _
 show Q (.int (Builtin.bitAnd (b / 2 ^ k.toNat) 1)) H
 rw [e]
 exact q
def xY : Sp := fun vs H Q _ => ∃ (b n : Int), vs = [.int b, .int n] ∧ 0 ≤ n ∧ n ≤ 32 ∧ ∀ r, H r = none → Q (.ref r) (upd H r (.lst ((bits b n.toNat).map V.int)))
theorem lC (T : Tx K mg a) : bj P w K mg base CX0 2 a.f_bits_of a.fd_bits_of ["block", "upto"] xY := by
 refine T.D_bits_of.F.ok xO (fun vs H Q E h => ?_) (fun cdv A outer s H vs Q E hr h => ?_)
 ·obtain ⟨b, n, rfl, _⟩ := h
  rfl
 obtain ⟨b, n, rfl, h0, h1, q⟩ := h
 refine ⟨_, (aq (aB (mz rfl (dg.one (j := 0) rfl (Or.inl rfl) rfl rfl (Or.inl rfl)) (jX rfl T.b_range (aa (pv 1) ak)) (fun _ _ _ _ => jR) (fun _ _ _ _ => (aD T.D_bit_in (tK T) (by decide) hr aK rfl (aa (pv 1) (aa (pv 0) ak))))))), ?_⟩
 refine ⟨_, rfl, n, rfl, by omega, by omega, ?_⟩
 refine tO (fun j => bit b j) (by rw [sizeLine_eq]; omega) (fun _ _ _ q => q) (fun j H' Q hj sm q => ⟨_, rfl, _, rfl, _, _, rfl, by omega, ?_⟩) fun D hD => q D hD
 rw [show ((0 : Int) + (j : Int)).toNat = j from by omega]
 exact q
def xZ : Sp := fun vs H Q _ => ∃ (b n : Int), vs = [.int b, .int n] ∧ 0 ≤ n ∧ n ≤ 32 ∧ ∀ H', aY H H' → Q (.int (ones b n.toNat)) H'
theorem qz (T : Tx K mg a) : bj P w K mg base CX0 3 a.f_ones_in a.fd_ones_in ["block", "upto"] xZ := by
 refine T.D_ones_in.F.ok xj (fun vs H Q E h => ?_) (fun cdv A outer s H vs Q E hr h => ?_)
 ·obtain ⟨b, n, rfl, _⟩ := h
  rfl
 obtain ⟨b, n, rfl, h0, h1, q⟩ := h
 refine ⟨_, (aq (aB (aU (BR rfl) rfl T.b_sum Tw.Fg (aa (aD T.D_bits_of (lC T) (by decide) hr aK rfl (aa (pv 0) (aa (pv 1) ak))) ak)))), ?_⟩
 exact ⟨_, rfl, _, rfl, b, n, rfl, h0, h1, fun r hr' => ⟨r, bits b n.toNat, rfl, SqL.of au, q _ (aA hr' _)⟩⟩
def Ac : Sp := fun vs H Q _ => ∃ (b t : Int), vs = [.int b, .int t] ∧ (∀ H', aY H H' → ∀ k : Nat, k < 32 → bit b k = 1 → ones b k = t → Q (.int (k : Int)) H') ∧
 ∀ H', aY H H' → (∀ k : Nat, k < 32 → ¬ (bit b k = 1 ∧ ones b k = t)) → Q .non H'
theorem Ag (T : Tx K mg a) : bj P w K mg base CX0 3 a.f_one_in a.fd_one_in ["block", "nth"] Ac := by
 refine T.D_one_in.F.ok ig (fun vs H Q E h => ?_) (fun cdv A outer s H vs Q E hr h => ?_)
 ·obtain ⟨b, n, rfl, _⟩ := h
  rfl
 obtain ⟨b, t, rfl, q1, q2⟩ := h
 refine ⟨_, (aj (aF (i := 2) ig.nd rfl (Or.inl rfl) ao)
  (aj (cB PassesOwn.never rfl (uH rfl T.b_enumerate (aa (aD T.D_bits_of (lC T) (by decide) hr aK rfl (aa (pv 0) (aa (bO (v := .int 32) rfl T.c_BLOCK_BITS ⟨_, rfl⟩) ak))) ak)) (ju rfl (bQ (bw (i := 3) ig.nd rfl (Or.inl rfl)) (bQ (bw (i := 4) ig.nd rfl (Or.inl rfl)) gr))) (aj (aW (PW.pt (jk (aL bY (pv 4) ao (aN _)) (iW (aL bY (pv 2) (pv 1) (aN _))))) (aq (aB (pv 3))) aM)
  (aq (aF (i := 2) ig.nd rfl (Or.inl rfl) (az aV (pv 2) (pv 4))))))
  (aq (aB bW)))), ?_⟩
 refine ⟨_, rfl, b, 32, rfl, by decide, by decide, fun r hr' => ⟨r, _, rfl, SqL.of au, ?_⟩⟩
 refine vY (xs := (bits b 32).map V.int) (fun i σ H' => (∃ k bt, σ = [some (.int b), some (.int t), some (.int (ones b i)), k, bt]) ∧ aY (upd H r (.lst ((bits b 32).map V.int))) H' ∧ ∀ j : Nat, j < i → ¬ (bit b j = 1 ∧ ones b j = t)) ?_ ?_ ?_ ?_
 ·exact ⟨⟨none, none, rfl⟩, aY.refl _, fun j hj => absurd hj (Nat.not_lt_zero _)⟩
 ·rintro i σ H' hi ⟨_, sm, _⟩
  exact SqL.of (sm _ _ au)
 ·rintro i x σ H' p hx ⟨⟨k, bt, rfl⟩, sm, no⟩ hp
  have hi : i < 32 := by
   have := (List.getElem?_eq_some_iff.mp hx).1
   rw [List.length_map, eE] at this
   exact this
  have ex : x = .int (bit b i) := by
   rw [List.getElem?_map, p6 hi] at hx
   exact (Option.some.inj hx).symm
  subst ex
  have sm' : aY (upd H r (.lst ((bits b 32).map V.int))) (upd H' p (.tup [.int (i : Int), .int (bit b i)])) := sm.trans (aA hp _)
  have smH := (aA hr' (.lst ((bits b 32).map V.int))).trans sm'
  have next : (∀ j : Nat, j < i + 1 → ¬ (bit b j = 1 ∧ ones b j = t)) ↔ ¬ (bit b i = 1 ∧ ones b i = t) := by
   refine ⟨fun h => h i (Nat.lt_succ_self _), fun h j hj => ?_⟩
   rcases Nat.lt_or_ge j i with l | l
   ·exact no j l
   ·have : j = i := by omega
    subst this
    exact h
  have go : ¬ (bit b i = 1 ∧ ones b i = t) → (∃ k bt, [some (V.int b), some (V.int t), some (V.int (ones b i + bit b i)), some (V.int (i : Int)), some (V.int (bit b i))] = [some (.int b), some (.int t), some (.int (ones b (i + 1))), k, bt]) ∧
    aY (upd H r (.lst ((bits b 32).map V.int))) (upd H' p (.tup [.int (i : Int), .int (bit b i)])) ∧ ∀ j : Nat, j < i + 1 → ¬ (bit b j = 1 ∧ ones b j = t) := fun h =>
   ⟨⟨_, _, by rw [jN]⟩, sm', next.mpr h⟩
  refine ⟨p, _, rfl, SqT.of au, rfl, _, _, rfl, _, _, rfl, rfl, ?_⟩
  refine ⟨_, rfl, rfl, _, rfl, ?_⟩
  refine aP (fun c => ?_) (fun c => ?_)
  ·have c1 : V.int (bit b i) = V.int 1 := of_decide_eq_true c
   refine ⟨_, rfl, _, rfl, rfl, _, rfl, ?_⟩
   refine aP (fun d => ?_) (fun d => ?_)
   ·have d1 : V.int (ones b i) = V.int t := of_decide_eq_true d
    exact ⟨_, rfl, q1 _ smH i hi (V.int.inj c1) (V.int.inj d1)⟩
   ·have d1 : ¬ V.int (ones b i) = V.int t := fun z => d (decide_eq_true z)
    exact ⟨_, rfl, _, rfl, _, _, rfl, rfl, go fun z => d1 (congrArg V.int z.2)⟩
  ·have c1 : ¬ V.int (bit b i) = V.int 1 := fun z => c (decide_eq_true z)
   exact cW ⟨_, rfl, _, rfl, _, _, rfl, rfl, go fun z => c1 (congrArg V.int z.1)⟩
 ·rintro σ H' ⟨_, sm, no⟩
  refine q2 _ ((aA hr' _).trans sm) fun k hk => no k ?_
  rw [List.length_map, eE]
  exact hk
def vU (K : PySem.W.Frag) : Sp := fun vs H Q _ => ∃ (p : Addr) (ns : List Int), vs = [.ref p] ∧ SqL K H p (ns.map V.int) ∧ Q (.int (blk ns)) H
theorem vh (T : Tx K mg a) : bj P w K mg base CX0 1 a.f_block_of a.fd_block_of ["bits"] (vU K) := by
 refine T.D_block_of.F.ok gA (fun vs H Q E h => ?_) (fun cdv A outer s H vs Q E hr h => ?_)
 ·obtain ⟨p, ns, rfl, _⟩ := h
  rfl
 obtain ⟨p, ns, rfl, hS, q⟩ := h
 refine ⟨_, (aj (aF (i := 1) gA.nd rfl (Or.inl rfl) ao)
  (aj (cB PassesOwn.never rfl (Az rfl T.b_reversed (aa (pv 0) ak) Tw.eF) (bw (i := 2) gA.nd rfl (Or.inl rfl)) (aq (aF (i := 1) gA.nd rfl (Or.inl rfl) (az aV (az b8 ao (pv 1)) (pv 2)))))
  (aq (aB (pv 1))))), ?_⟩
 refine ⟨_, rfl, p, _, rfl, hS, ?_⟩
 refine zb (xs := ns.map V.int) (fun i σ H' => (∃ k, σ = [some (.ref p), some (.int (blk (ns.drop (ns.length - i)))), k]) ∧ H' = H) ?_ ?_ ?_ ?_
 ·refine ⟨⟨none, ?_⟩, rfl⟩
  rw [Nat.sub_zero, List.drop_length]
  rfl
 ·rintro i σ H' _ ⟨_, rfl⟩
  exact hS
 ·rintro i x σ H' hi hx ⟨⟨k, rfl⟩, rfl⟩
  obtain ⟨c, hc, rfl⟩ := int_at hx
  rw [List.length_map] at hi hc
  refine ⟨_, rfl, _, _, rfl, rfl, .inl ⟨by decide, by decide⟩, _, rfl, _, _, rfl, rfl, ⟨some (.int c), ?_⟩, rfl⟩
  have e : ns.drop (ns.length - (i + 1)) = c :: ns.drop (ns.length - i) := by
   have e1 : ns.length - (i + 1) = ns.length - 1 - i := by omega
   have e2 : ns.length - i = ns.length - 1 - i + 1 := by omega
   rw [e1, e2, List.drop_eq_getElem_cons (by omega)]
   congr 1
   have := List.getElem?_eq_some_iff.mp hc
   exact this.2
  rw [e]
  rfl
 ·rintro σ H' ⟨⟨k, rfl⟩, rfl⟩
  rw [List.length_map, Nat.sub_self, List.drop_zero]
  exact ⟨_, rfl, q⟩
def Cu : Sp := fun vs H Q _ => ∃ i : Int, vs = [.int i] ∧ Q (.bl true) H
theorem lW (T : Tx K mg a) : bj P w K mg base CX0 1 a.f_law_whole a.fd_law_whole ["_law_found"] Cu := by
 refine T.D_law_whole.F.ok uB (fun vs H Q E h => ?_) (fun cdv A outer s H vs Q E hr h => ?_)
 ·obtain ⟨i, rfl, _⟩ := h
  rfl
 obtain ⟨i, rfl, q⟩ := h
 refine ⟨_, (aq (aB (nZ (aU mG rfl T.b_isinstance Tw.dX (aa (pv 0) (aa (pY (v := .ty "int") rfl T.b_int Tw.Fv rfl) ak))) (nW (Fw (aU mG rfl T.b_isinstance Tw.dX (aa (pv 0) (aa (pY (v := .ty "bool") rfl T.b_bool Tw.uG rfl) ak)))))))), ?_⟩
 refine ⟨_, rfl, _, "int", _, true, rfl, .int i, rfl, true, rfl, dN ?_⟩
 exact ⟨_, rfl, _, "bool", _, false, rfl, .int i, rfl, false, rfl, q⟩
def ut (K : PySem.W.Frag) : Sp := fun vs H Q _ => ∃ (p : Addr) (ns : List Int), vs = [.ref p] ∧ SqL K H p (ns.map V.int) ∧ ns.length ≤ 4096 ∧ bu ns ∧ Q .non H
theorem mj (T : Tx K mg a) : bj P w K mg base CX0 1 a.f_check_row a.fd_check_row ["bits"] (ut K) := by
 refine T.D_check_row.F.ok lY (fun vs H Q E h => ?_) (fun cdv A outer s H vs Q E hr h => ?_)
 ·obtain ⟨p, ns, rfl, _⟩ := h
  rfl
 obtain ⟨p, ns, rfl, hS, hl, hb, q⟩ := h
 refine ⟨_, (aj (aW (aL gU (aU bc rfl T.b_len Tw.cG (aa (pv 0) ak)) (bO (v := .int 4096) rfl T.c_MOST_BITS ⟨_, rfl⟩) (aN _)) (aq cO) aM)
  (aq (cB PassesOwn.never rfl (dw (pv 0)) (bw (i := 1) lY.nd rfl (Or.inl rfl)) (aq (aW (PW.pt (jk (aL yJ (pv 1) ao (aN _)) (iW (aL yJ (pv 1) ao (aN _))))) (aq cO) aM))))), ?_⟩
 refine ⟨_, rfl, p, _, rfl, .inl hS, _, _, rfl, rfl, _, rfl, aP (fun c => ?_) fun _ => ?_⟩
 ·have c := of_decide_eq_true c
  rw [List.length_map] at c
  omega
 refine ⟨_, rfl, p, rfl, ⟨_, hS⟩, ?_⟩
 refine dG (xs := ns.map V.int) (fun i σ H' => (∃ k, σ = [some (.ref p), k]) ∧ H' = H) ⟨⟨none, rfl⟩, rfl⟩ ?_ ?_ ?_
 ·rintro i σ H' _ ⟨_, rfl⟩
  exact hS
 ·rintro i x σ H' hx ⟨⟨k, rfl⟩, rfl⟩
  obtain ⟨c, hc, rfl⟩ := int_at hx
  rcases hb c (List.mem_of_getElem? hc) with rfl | rfl
  ·exact ⟨_, rfl, rfl, _, rfl, tH rfl (cW ⟨⟨_, rfl⟩, rfl⟩)⟩
  ·refine ⟨_, rfl, rfl, _, rfl, aP (fun _ => ⟨_, rfl, rfl, _, rfl, tH rfl ⟨⟨_, rfl⟩, rfl⟩⟩) fun z => absurd ?_ z⟩
   decide
 ·rintro σ H' ⟨_, rfl⟩
  exact q
def Av (K : PySem.W.Frag) : Sp := fun vs H Q _ => ∃ (p : Addr) (ns : List Int), vs = [.ref p] ∧ SqL K H p (ns.map V.int) ∧ ns.length ≤ 4096 ∧ bu ns ∧ ∀ r H', H r = none → aY H H' → H' r = some (.lst ((cV ns).map V.int)) → Q (.ref r) H'
theorem zE (T : Tx K mg a) : bj P w K mg base CX0 2 a.f_packed a.fd_packed ["bits"] (Av K) := by
 refine T.D_packed.F.ok Af (fun vs H Q E h => ?_) (fun cdv A outer s H vs Q E hr h => ?_)
 ·obtain ⟨p, ns, rfl, _⟩ := h
  rfl
 obtain ⟨p, ns, rfl, hS, hl, hb, q⟩ := h
 refine ⟨_, (aj (bz (aD T.D_check_row (mj T) (by decide) hr aK rfl (aa (pv 0) ak)))
  (aq (aB (mz rfl (dg.one (j := 0) rfl (Or.inl rfl) rfl rfl (Or.inl rfl)) (zU rfl T.b_range (aa ao (aa (aU bc rfl T.b_len Tw.cG (aa (pv 0) ak)) (aa (bO (v := .int 32) rfl T.c_BLOCK_BITS ⟨_, rfl⟩) ak)))) (fun _ _ _ _ => jR) (fun _ _ _ _ => (aD T.D_block_of (vh T) (by decide) hr aK rfl (aa (il (show SlR _ (G6 K) from jQ) (pv 1) (iV (pv 0)) (iV (az aV (pv 0) (bO (v := .int 32) rfl T.c_BLOCK_BITS ⟨_, rfl⟩)))) ak))))))), ?_⟩
 refine ⟨_, rfl, p, ns, rfl, hS, hl, hb, ?_⟩
 refine ⟨_, rfl, p, _, rfl, .inl hS, (ns.map V.int).length, rfl, ?_, ?_⟩
 ·rw [List.length_map]
  exact Nat.lt_of_le_of_lt hl (by decide)
 rw [List.length_map]
 intro D hD
 refine ⟨fun i m ys H1 => m = many ns.length - i ∧ i ≤ many ns.length ∧ ys = ((List.range i).map (bK ns)).map V.int ∧ aY H H1 ∧ H1 D = some (.lst ys), ⟨_, rfl, Nat.zero_le _, rfl, aA hD _, au⟩, ?_⟩
 rintro i m ys H1 ⟨rfl, hi, rfl, sm, hD1⟩
 by_cases hlt : i < many ns.length
 ·refine .inr ⟨hlt, fun v H2 y => ?_⟩
  obtain ⟨rfl, rfl⟩ := y
  unfold DW
  refine dN ?_
  refine ⟨_, rfl, _, rfl, _, rfl, _, rfl, _, _, rfl, rfl, _, rfl, p, _, rfl, sm.seq hS, fun p2 hp2 => ?_⟩
  have e1 : (0 : Int) + (i : Int) * 32 = ((32 * i : Nat) : Int) := by omega
  have e2 : (0 : Int) + (i : Int) * 32 + 32 = ((32 * i + 32 : Nat) : Int) := by omega
  rw [e1, show ((32 * i : Nat) : Int) + 32 = ((32 * i + 32 : Nat) : Int) from by omega, DP, Nat.add_sub_cancel_left]
  refine ⟨p2, _, rfl, SqL.of au, ?_⟩
  have ne : D ≠ p2 := aJ hD1 hp2
  refine ⟨by rw [aH ne]; exact hD1, ?_, many ns.length - (i + 1), by omega, rfl, hlt, ?_, bL (sm.trans (aA hp2 _)) hD _, au⟩
  ·rw [List.length_map, List.length_map, List.length_range]
   unfold many at hlt
   exact small (by omega)
  ·rw [List.range_succ, List.map_append, List.map_append]
   rfl
 ·have e : i = many ns.length := by omega
  subst e
  exact .inl ⟨Nat.le_refl _, q D H1 hD sm hD1⟩
def v4 (K : PySem.W.Frag) : Sp := fun vs H Q _ => ∃ (p : Addr) (bs : List Int), vs = [.ref p] ∧ SqL K H p (bs.map V.int) ∧ bs.length ≤ 4096 ∧ ∀ r H', H r = none → aY H H' → H' r = some (.tup ((eG bs bs.length).map V.int)) → Q (.ref r) H'
theorem wI (T : Tx K mg a) : bj P w K mg base CX0 4 a.f_ahead_of a.fd_ahead_of ["blocks"] (v4 K) := by
 refine T.D_ahead_of.F.ok jA (fun vs H Q E h => ?_) (fun cdv A outer s H vs Q E hr h => ?_)
 ·obtain ⟨p, bs, rfl, _⟩ := h
  rfl
 obtain ⟨p, bs, rfl, hS, hl, q⟩ := h
 refine ⟨_, (aj (aF (i := 1) jA.nd rfl (Or.inl rfl) (cD (aa ao ak)))
  (aj (cB PassesOwn.never rfl (dw (pv 0)) (bw (i := 2) jA.nd rfl (Or.inl rfl)) (aq (bz (ir PySem.F.plainAttrs_list PySem.F.slot_list_append PySem.F.type_list_append bT (pv 1) (aa (az aV (aQ aR (pv 1) (tQ m9 ao) (fun _ _ => rfl)) (aD T.D_ones_in (qz T) (by decide) hr aK rfl (aa (pv 2) (aa (bO (v := .int 32) rfl T.c_BLOCK_BITS ⟨_, rfl⟩) ak)))) ak)))))
  (aq (aB (fL j4 rfl T.b_tuple Tw.vD (aa (pv 1) ak)))))), ?_⟩
 refine ⟨(by show 1 ≤ sizeLine; decide), fun r hr' => ?_⟩
 refine ⟨_, rfl, p, rfl, ⟨_, (aA hr' _).seq hS⟩, ?_⟩
 refine dG (xs := bs.map V.int) (fun i σ H' => (∃ k, σ = [some (.ref p), some (.ref r), k]) ∧ aY H H' ∧ H' r = some (.lst ((eG bs i).map V.int))) ?_ ?_ ?_ ?_
 ·exact ⟨⟨none, rfl⟩, aA hr' _, au⟩
 ·rintro i σ H' _ ⟨_, sm, _⟩
  exact sm.seq hS
 ·rintro i x σ H' hx ⟨⟨k, rfl⟩, sm, hr1⟩
  obtain ⟨b, hb, rfl⟩ := int_at hx
  have hi := (List.getElem?_eq_some_iff.mp hb).1
  have hla : atI ((eG bs i).map V.int) (-1) = some (.int (gF bs i)) := by
   rw [vy, List.map_append]
   exact mU _ _
  refine ⟨_, rfl, .inl ⟨rfl, _, SqL.of hr1⟩, _, rfl, _, rfl, r, _, _, _, rfl, rfl, SqL.of hr1, hla, _, rfl, b, 32, rfl, by decide, by decide, fun H2 sm2 => ⟨_, _, rfl, rfl, r, _, _, rfl, rfl, sm2 _ _ hr1, ?_, ⟨_, rfl⟩, bL (sm.trans sm2) hr' _, ?_⟩⟩
  ·rw [List.length_map, rW]
   exact small (by omega)
  ·rw [au, wY, List.map_append, pA hb]
   rfl
 ·rintro σ H' ⟨⟨k, rfl⟩, sm, hr1⟩
  rw [List.length_map] at hr1
  exact ⟨_, rfl, r, _, rfl, .inl ⟨SqL.of hr1, fun l hl => q l _ (sm.free hl) (sm.trans (aA hl _)) au⟩⟩
def w6 : Sp := fun vs H Q _ => ∃ (b n : Int), vs = [.int b, .int n] ∧ 0 ≤ n ∧ n ≤ 32 ∧ ∀ r H', H r = none → aY H H' → H' r = some (.lst ((nets b n.toNat).map V.int)) → Q (.ref r) H'
theorem iI (T : Tx K mg a) : bj P w K mg base CX0 3 a.f_nets_of a.fd_nets_of ["block", "upto"] w6 := by
 refine T.D_nets_of.F.ok gf (fun vs H Q E h => ?_) (fun cdv A outer s H vs Q E hr h => ?_)
 ·obtain ⟨b, n, rfl, _⟩ := h
  rfl
 obtain ⟨b, n, rfl, h0, h1, q⟩ := h
 refine ⟨_, (aj (aF (i := 2) gf.nd rfl (Or.inl rfl) (cD ak))
  (aj (aF (i := 3) gf.nd rfl (Or.inl rfl) ao)
  (aj (cB PassesOwn.never rfl (dw (aD T.D_bits_of (lC T) (by decide) hr aK rfl (aa (pv 0) (aa (pv 1) ak)))) (bw (i := 4) gf.nd rfl (Or.inl rfl)) (aj (aF (i := 3) gf.nd rfl (Or.inl rfl) (az bx (az aV (pv 3) (az b8 ao (pv 4))) ao))
  (aq (bz (ir PySem.F.plainAttrs_list PySem.F.slot_list_append PySem.F.type_list_append bT (pv 2) (aa (pv 3) ak))))))
  (aq (aB (pv 2)))))), ?_⟩
 refine ⟨(by show 0 ≤ sizeLine; decide), fun r hr' => ?_⟩
 refine ⟨_, rfl, _, rfl, b, n, rfl, h0, h1, fun p hp => ⟨p, rfl, ⟨_, SqL.of au⟩, ?_⟩⟩
 have ne : r ≠ p := aJ au hp
 refine dG (xs := (bits b n.toNat).map V.int) (fun i σ H' => (∃ k, σ = [some (.int b), some (.int n), some (.ref r), some (.int (net b i)), k]) ∧ aY H H' ∧ H' r = some (.lst ((nets b i).map V.int)) ∧ H' p = some (.lst ((bits b n.toNat).map V.int))) ?_ ?_ ?_ ?_
 ·refine ⟨⟨none, by rw [Ck]; rfl⟩, (aA hr' _).trans (aA hp _), ?_, au⟩
  rw [aH ne, au]
  rfl
 ·rintro i σ H' _ ⟨_, _, _, hp'⟩
  exact SqL.of hp'
 ·rintro i x σ H' hx ⟨⟨k, rfl⟩, sm, hr1, hp1⟩
  obtain ⟨c, hc, rfl⟩ := int_at hx
  have hi : i < n.toNat := by
   have := (List.getElem?_eq_some_iff.mp hc).1
   rw [eE] at this
   exact this
  have ec : c = bit b i := by
   rw [p6 hi] at hc
   exact (Option.some.inj hc).symm
  subst ec
  refine ⟨_, rfl, _, rfl, _, _, rfl, rfl, .inl ⟨by decide, by decide⟩, _, _, rfl, rfl, _, _, rfl, rfl, ?_⟩
  refine ⟨_, rfl, .inl ⟨rfl, _, SqL.of hr1⟩, _, rfl, r, _, _, rfl, rfl, hr1, ?_, ?_⟩
  ·rw [List.length_map, cI]
   exact small (by omega)
  ·refine ⟨⟨some (.int (bit b i)), by rw [wC]; rfl⟩, bL sm hr' _, ?_, ?_⟩
   ·rw [au, zO, wC, List.map_append]
    rfl
   ·rw [aH (Ne.symm ne)]
    exact hp1
 ·rintro σ H' ⟨⟨k, rfl⟩, sm, hr1, hp1⟩
  rw [List.length_map, eE] at hr1
  exact ⟨_, rfl, q r H' hr' sm hr1⟩
def Ab : Sp := fun vs H Q _ => ∃ (b n : Int), vs = [.int b, .int n] ∧ 1 ≤ n ∧ n ≤ 32 ∧ ∀ M H', qN M (nets b n.toNat) → aY H H' → Q (.int M) H'
theorem zG (T : Tx K mg a) : bj P w K mg base CX0 4 a.f_low_in a.fd_low_in ["block", "upto"] Ab := by
 refine T.D_low_in.F.ok z9 (fun vs H Q E h => ?_) (fun cdv A outer s H vs Q E hr h => ?_)
 ·obtain ⟨b, n, rfl, _⟩ := h
  rfl
 obtain ⟨b, n, rfl, h0, h1, q⟩ := h
 refine ⟨_, (aq (aB (Dm rfl rfl T.b_min (aa (aD T.D_nets_of (iI T) (by decide) hr aK rfl (aa (pv 0) (aa (pv 1) ak))) ak) ao Tw.jE))), ?_⟩
 refine ⟨_, rfl, _, rfl, b, n, rfl, by omega, h1, fun p H' hp sm h' => ⟨p, _, rfl, SqL.of h', ?_, fun M hM => q M H' hM sm⟩⟩
 rw [cI]
 omega
def pM : Sp := fun vs H Q _ => ∃ (b : Int) (st sp : Nat) (g : Int), vs = [.int b, .int (st : Int), .int (sp : Int), .int g] ∧ sp ≤ 32 ∧
 (∀ H' (k : Nat), aY H H' → Due b st sp g k → (∀ j, Due b st sp g j → k ≤ j) → Q (.int (k : Int)) H') ∧ ∀ H', aY H H' → (∀ k, ¬ Due b st sp g k) → Q .non H'
theorem pI (T : Tx K mg a) : bj P w K mg base CX0 4 a.f_first_low_in a.fd_first_low_in ["block", "start", "stop", "goal"] pM := by
 refine T.D_first_low_in.F.ok eO (fun vs H Q E h => ?_) (fun cdv A outer s H vs Q E hr h => ?_)
 ·obtain ⟨b, st, sp, g, rfl, _⟩ := h
  rfl
 obtain ⟨b, st, sp, g, rfl, hsp, q1, q2⟩ := h
 refine ⟨_, (aj (cB PassesOwn.never rfl (vN rfl T.b_enumerate (aa (aD T.D_nets_of (iI T) (by decide) hr aK rfl (aa (pv 0) (aa (pv 2) ak))) ak) ao) (ju rfl (bQ (bw (i := 4) eO.nd rfl (Or.inl rfl)) (bQ (bw (i := 5) eO.nd rfl (Or.inl rfl)) gr))) (aq (aW (PW.pt (jk (aL gU (pv 4) (pv 1) (aN _)) (iW (aL di (pv 5) (pv 3) (aN _))))) (aq (aB (pv 4))) aM)))
  (aq (aB bW))), ?_⟩
 refine ⟨_, rfl, _, rfl, b, (sp : Int), rfl, by omega, by omega, fun r H1 hr1 sm1 h1 => ?_⟩
 rw [Int.toNat_natCast] at h1
 refine ⟨r, _, rfl, rfl, SqL.of h1, ?_⟩
 refine tE (xs := (nets b sp).map V.int) (fun i σ H' => (∃ k n, σ = [some (.int b), some (.int (st : Int)), some (.int (sp : Int)), some (.int g), k, n]) ∧ aY H1 H' ∧ ∀ j, j ≤ i → ¬ Due b st sp g j) ?_ ?_ ?_ ?_
 ·exact ⟨⟨none, none, rfl⟩, aY.refl _, fun j hj d => by have := d.1; omega⟩
 ·rintro i σ H' _ ⟨_, sm, _⟩
  exact SqL.of (sm _ _ h1)
 ·rintro i x σ H' p hx ⟨⟨k, n, rfl⟩, sm, no⟩ hp
  obtain ⟨c, hc, rfl⟩ := int_at hx
  have hi : i < sp := by
   have := (List.getElem?_eq_some_iff.mp hc).1
   rw [cI] at this
   exact this
  have ec : c = net b (i + 1) := by
   rw [lX hi] at hc
   exact (Option.some.inj hc).symm
  subst ec
  have sm' : aY H1 (upd H' p (.tup [.int ((i + 1 : Nat) : Int), .int (net b (i + 1))])) := sm.trans (aA hp _)
  have go : ¬ Due b st sp g (i + 1) → ∀ j, j ≤ i + 1 → ¬ Due b st sp g j := fun h j hj => by
   rcases Nat.lt_or_ge i j with l | l
   ·have : j = i + 1 := by omega
    subst this
    exact h
   ·exact no j l
  refine ⟨p, _, rfl, SqT.of au, rfl, _, _, rfl, _, _, rfl, rfl, ?_⟩
  refine ⟨_, rfl, _, rfl, _, _, rfl, rfl, _, rfl, aP (fun c1 => ?_) fun c1 => ?_⟩
  ·have c1 := of_decide_eq_true c1
   refine ⟨_, rfl, _, rfl, _, _, rfl, rfl, _, rfl, aP (fun c2 => ?_) fun c2 => ?_⟩
   ·have c2 := of_decide_eq_true c2
    exact ⟨_, rfl, q1 _ (i + 1) (sm1.trans sm') ⟨by omega, by omega, c2⟩ fun j d => by
     rcases Nat.lt_or_ge i j with l | l
     ·exact l
     ·exact absurd d (no j l)⟩
   ·have c2 : ¬ net b (i + 1) ≤ g := fun z => c2 (decide_eq_true z)
    exact ⟨⟨_, _, rfl⟩, sm', go fun d => c2 d.2.2⟩
  ·have c1 : ¬ (st : Int) < ((i + 1 : Nat) : Int) := fun z => c1 (decide_eq_true z)
   exact cW ⟨⟨_, _, rfl⟩, sm', go fun d => by have := d.1; omega⟩
 ·rintro σ H' ⟨_, sm, no⟩
  refine q2 _ (sm1.trans sm) fun k d => no k ?_ d
  rw [List.length_map, cI]
  exact d.2.1
def q8 : Sp := fun vs H Q _ => ∃ (b : Int) (st sp : Nat) (g : Int), vs = [.int b, .int (st : Int), .int (sp : Int), .int g] ∧ sp ≤ 32 ∧
 (∀ H' (k : Nat), aY H H' → Due b st sp g k → (∀ j, Due b st sp g j → j ≤ k) → Q (.int (k : Int)) H') ∧ ∀ H', aY H H' → (∀ k, ¬ Due b st sp g k) → Q .non H'
theorem qT (T : Tx K mg a) : bj P w K mg base CX0 4 a.f_last_low_in a.fd_last_low_in ["block", "start", "stop", "goal"] q8 := by
 refine T.D_last_low_in.F.ok cU (fun vs H Q E h => ?_) (fun cdv A outer s H vs Q E hr h => ?_)
 ·obtain ⟨b, st, sp, g, rfl, _⟩ := h
  rfl
 obtain ⟨b, st, sp, g, rfl, hsp, q1, q2⟩ := h
 refine ⟨_, (aj (aF (i := 4) cU.nd rfl (Or.inl rfl) bW)
  (aj (cB PassesOwn.never rfl (vN rfl T.b_enumerate (aa (aD T.D_nets_of (iI T) (by decide) hr aK rfl (aa (pv 0) (aa (pv 2) ak))) ak) ao) (ju rfl (bQ (bw (i := 5) cU.nd rfl (Or.inl rfl)) (bQ (bw (i := 6) cU.nd rfl (Or.inl rfl)) gr))) (aq (aW (PW.pt (jk (aL gU (pv 5) (pv 1) (aN _)) (iW (aL di (pv 6) (pv 3) (aN _))))) (aq (aF (i := 4) cU.nd rfl (Or.inl rfl) (pv 5))) aM)))
  (aq (aB (pv 4))))), ?_⟩
 refine ⟨_, rfl, _, rfl, b, (sp : Int), rfl, by omega, by omega, fun r H1 hr1 sm1 h1 => ?_⟩
 rw [Int.toNat_natCast] at h1
 refine ⟨r, _, rfl, rfl, SqL.of h1, ?_⟩
 refine tE (xs := (nets b sp).map V.int) (fun i σ H' => ∃ f, (∃ k n, σ = [some (.int b), some (.int (st : Int)), some (.int (sp : Int)), some (.int g), some f, k, n]) ∧ aY H1 H' ∧
  ((f = .non ∧ ∀ j, j ≤ i → ¬ Due b st sp g j) ∨ ∃ k : Nat, f = .int (k : Int) ∧ k ≤ i ∧ Due b st sp g k ∧ ∀ j, j ≤ i → Due b st sp g j → j ≤ k)) ?_ ?_ ?_ ?_
 ·exact ⟨.non, ⟨none, none, rfl⟩, aY.refl _, .inl ⟨rfl, fun j hj d => by have := d.1; omega⟩⟩
 ·rintro i σ H' _ ⟨_, _, sm, _⟩
  exact SqL.of (sm _ _ h1)
 ·rintro i x σ H' p hx ⟨f, ⟨k, n, rfl⟩, sm, hf⟩ hp
  obtain ⟨c, hc, rfl⟩ := int_at hx
  have hi : i < sp := by
   have := (List.getElem?_eq_some_iff.mp hc).1
   rw [cI] at this
   exact this
  have ec : c = net b (i + 1) := by
   rw [lX hi] at hc
   exact (Option.some.inj hc).symm
  subst ec
  have sm' : aY H1 (upd H' p (.tup [.int ((i + 1 : Nat) : Int), .int (net b (i + 1))])) := sm.trans (aA hp _)
  have old : ¬ Due b st sp g (i + 1) → (f = .non ∧ ∀ j, j ≤ i + 1 → ¬ Due b st sp g j) ∨ ∃ k : Nat, f = .int (k : Int) ∧ k ≤ i + 1 ∧ Due b st sp g k ∧ ∀ j, j ≤ i + 1 → Due b st sp g j → j ≤ k := fun h => by
   rcases hf with ⟨e, no⟩ | ⟨k, e, k1, d, mx⟩
   ·refine .inl ⟨e, fun j hj => ?_⟩
    rcases Nat.lt_or_ge i j with l | l
    ·have : j = i + 1 := by omega
     subst this
     exact h
    ·exact no j l
   ·refine .inr ⟨k, e, by omega, d, fun j hj dj => ?_⟩
    rcases Nat.lt_or_ge i j with l | l
    ·have : j = i + 1 := by omega
     subst this
     exact absurd dj h
    ·exact mx j l dj
  refine ⟨p, _, rfl, SqT.of au, rfl, _, _, rfl, _, _, rfl, rfl, ?_⟩
  refine ⟨_, rfl, _, rfl, _, _, rfl, rfl, _, rfl, aP (fun c1 => ?_) fun c1 => ?_⟩
  ·have c1 := of_decide_eq_true c1
   refine ⟨_, rfl, _, rfl, _, _, rfl, rfl, _, rfl, aP (fun c2 => ?_) fun c2 => ?_⟩
   ·have c2 := of_decide_eq_true c2
    exact ⟨_, rfl, _, ⟨_, _, rfl⟩, sm', .inr ⟨i + 1, rfl, Nat.le_refl _, ⟨by omega, by omega, c2⟩, fun j hj _ => hj⟩⟩
   ·have c2 : ¬ net b (i + 1) ≤ g := fun z => c2 (decide_eq_true z)
    exact ⟨f, ⟨_, _, rfl⟩, sm', old fun d => c2 d.2.2⟩
  ·have c1 : ¬ (st : Int) < ((i + 1 : Nat) : Int) := fun z => c1 (decide_eq_true z)
   exact cW ⟨f, ⟨_, _, rfl⟩, sm', old fun d => by have := d.1; omega⟩
 ·rintro σ H' ⟨f, ⟨k, n, rfl⟩, sm, hf⟩
  rw [List.length_map, cI] at hf
  refine ⟨_, rfl, ?_⟩
  rcases hf with ⟨rfl, no⟩ | ⟨k, rfl, k1, d, mx⟩
  ·exact q2 _ (sm1.trans sm) fun k d => no k d.2.1 d
  ·exact q1 _ k (sm1.trans sm) d fun j dj => mx j dj.2.1 dj
def xR : Sp := fun vs H Q _ => ∃ n : Nat, vs = [.int (n : Int)] ∧ n ≤ 100000 ∧ ∀ S, iu n S → Q (.int (S : Int)) H
theorem iQ (T : Tx K mg a) : bj P w K mg base CX0 1 a.f_size_of a.fd_size_of ["many"] xR := by
 refine T.D_size_of.F.ok kY (fun vs H Q E h => ?_) (fun cdv A outer s H vs Q E hr h => ?_)
 ·obtain ⟨n, rfl, _⟩ := h
  rfl
 obtain ⟨n, rfl, hn, q⟩ := h
 refine ⟨_, (aj (aF (i := 1) kY.nd rfl (Or.inl rfl) ao)
  (aj (jl PassesOwn.never (aL jg (pv 1) (pv 0) (aN _)) (aq (aF (i := 1) kY.nd rfl (Or.inl rfl) (az b8 ao (pv 1)))))
  (aq (aB (pv 1))))), ?_⟩
 refine ⟨fun m σ H' => ∃ h : Nat, σ = [some (.int (n : Int)), some (.int ((2 ^ h : Nat) : Int))] ∧ H' = H ∧ m = n - 2 ^ h ∧ ∀ j, j < h → 2 ^ j < n, ⟨_, 0, rfl, rfl, rfl, fun j hj => absurd hj (Nat.not_lt_zero _)⟩, ?_⟩
 rintro m σ H' ⟨h, rfl, rfl, rfl, hj⟩
 refine ⟨_, rfl, _, rfl, _, _, rfl, rfl, _, rfl, aP (fun c => ?_) fun c => ?_⟩
 ·have c : ((2 ^ h : Nat) : Int) < (n : Int) := of_decide_eq_true c
  have hp : 0 < 2 ^ h := Nat.two_pow_pos h
  refine ⟨_, fun σ' H2 z => z, _, rfl, _, _, rfl, rfl, .inl ⟨by decide, by decide⟩, n - 2 ^ (h + 1), by rw [Nat.pow_succ]; omega, h + 1, ?_, rfl, rfl, fun j hj2 => ?_⟩
  ·have e : (2 : Int) * ((2 ^ h : Nat) : Int) = ((2 ^ (h + 1) : Nat) : Int) := by rw [Nat.pow_succ]; omega
   rw [← e]
   rfl
  ·rcases Nat.lt_or_ge j h with l | l
   ·exact hj j l
   ·have : j = h := by omega
    subst this
    omega
 ·have c : ¬ ((2 ^ h : Nat) : Int) < (n : Int) := fun z => c (decide_eq_true z)
  exact ⟨_, rfl, q (2 ^ h) ⟨h, rfl, by omega, hj⟩⟩
abbrev nats (l : List Nat) : List V := l.map fun n : Nat => V.int (n : Int)
def mW : Sp := fun vs H Q _ => ∃ n st sp : Nat, vs = [.int (n : Int), .int (st : Int), .int (sp : Int)] ∧ st ≤ sp ∧ sp ≤ n ∧ Q .non H
theorem oN (T : Tx K mg a) : bj P w K mg base CX0 1 a.f_check_stretch a.fd_check_stretch ["many", "start", "stop"] mW := by
 refine T.D_check_stretch.F.ok nO (fun vs H Q E h => ?_) (fun cdv A outer s H vs Q E hr h => ?_)
 ·obtain ⟨n, st, sp, rfl, _⟩ := h
  rfl
 obtain ⟨n, st, sp, rfl, h1, h2, q⟩ := h
 refine ⟨_, (aq (aW (lw (tV di di di ao (pv 1) (pv 2) (pv 0))) (aq cO) aM)), ?_⟩
 refine ⟨_, rfl, _, _, rfl, rfl, _, rfl, aP (fun _ => ?_) fun z => absurd (decide_eq_true (show (0 : Int) ≤ (st : Int) from by omega)) z⟩
 refine ⟨_, rfl, _, _, rfl, rfl, _, rfl, aP (fun _ => ?_) fun z => absurd (decide_eq_true (show (st : Int) ≤ (sp : Int) from by omega)) z⟩
 refine ⟨_, rfl, _, _, rfl, rfl, _, rfl, ?_⟩
 rw [decide_eq_true (show (sp : Int) ≤ (n : Int) from by omega)]
 exact cW q
def Cg : Sp := fun vs H Q _ => ∃ many st sp : Nat, vs = [.int (many : Int), .int (st : Int), .int (sp : Int)] ∧ st ≤ sp ∧ sp ≤ many ∧ many ≤ 4096 ∧ ∀ S r H', iu many S → H r = none → aY H H' → H' r = some (.lst (nats (cover S st sp))) → Q (.ref r) H'
theorem qm (T : Tx K mg a) : bj P w K mg base CX0 2 a.f_cover a.fd_cover ["many", "start", "stop"] Cg := by
 refine T.D_cover.F.ok dm (fun vs H Q E h => ?_) (fun cdv A outer s H vs Q E hr h => ?_)
 ·obtain ⟨n, st, sp, rfl, _⟩ := h
  rfl
 obtain ⟨n, st, sp, rfl, h1, h2, h3, q⟩ := h
 refine ⟨_, (aj (bz (aD T.D_check_stretch (oN T) (by decide) hr aK rfl (aa (pv 0) (aa (pv 1) (aa (pv 2) ak)))))
  (aj (aF (i := 3) dm.nd rfl (Or.inl rfl) (aD T.D_size_of (iQ T) (by decide) hr aK rfl (aa (pv 0) ak)))
  (aj (aF (i := 4) dm.nd rfl (Or.inl rfl) (az aV (pv 3) (pv 1)))
  (aj (aF (i := 5) dm.nd rfl (Or.inl rfl) (az aV (pv 3) (pv 2)))
  (aj (aF (i := 6) dm.nd rfl (Or.inl rfl) (cD ak))
  (aj (aF (i := 7) dm.nd rfl (Or.inl rfl) (cD ak))
  (aj (jl PassesOwn.never (aL jg (pv 4) (pv 5) (aN _)) (aj (aW (aL bY (az bJ (pv 4) ao) ao (aN _)) (aj (bz (ir PySem.F.plainAttrs_list PySem.F.slot_list_append PySem.F.type_list_append bT (pv 6) (aa (pv 4) ak)))
  (aq (aF (i := 4) dm.nd rfl (Or.inl rfl) (az aV (pv 4) ao)))) aM)
  (aj (aW (aL bY (az bJ (pv 5) ao) ao (aN _)) (aj (aF (i := 5) dm.nd rfl (Or.inl rfl) (az bx (pv 5) ao))
  (aq (bz (ir PySem.F.plainAttrs_list PySem.F.slot_list_append PySem.F.type_list_append bT (pv 7) (aa (pv 5) ak))))) aM)
  (aj (aF (i := 4) dm.nd rfl (Or.inl rfl) (az cg (pv 4) ao))
  (aq (aF (i := 5) dm.nd rfl (Or.inl rfl) (az cg (pv 5) ao)))))))
  (aq (aB (az nj (pv 6) (kZ rfl rfl T.b_list Tw.jO rfl T.b_reversed Tw.eF (aa (pv 7) ak)))))))))))), ?_⟩
 refine ⟨_, rfl, _, rfl, _, rfl, n, st, sp, rfl, h1, h2, ?_⟩
 refine ⟨_, rfl, n, rfl, by omega, fun S hS => ?_⟩
 refine ⟨_, rfl, _, rfl, _, _, rfl, rfl, ?_⟩
 refine ⟨_, rfl, _, rfl, _, _, rfl, rfl, ?_⟩
 refine ⟨(by show 0 ≤ sizeLine; decide), fun lf hlf => ?_⟩
 refine ⟨(by show 0 ≤ sizeLine; decide), fun rg hrg => ?_⟩
 have nlr : lf ≠ rg := aJ au hrg
 have hrg0 := (aA hlf (.lst [])).free hrg
 have smA := (aA hlf (.lst [])).trans (aA hrg (.lst []))
 have hS4 := hS.le h3
 refine ⟨fun m σ H' => ∃ (low high f : Nat) (ls rs : List Nat), σ = [some (.int (n : Int)), some (.int (st : Int)), some (.int (sp : Int)), some (.int (S : Int)), some (.int (low : Int)), some (.int (high : Int)), some (.ref lf), some (.ref rg)] ∧ m = high - low ∧ aY H H' ∧ H' lf = some (.lst (nats ls)) ∧ H' rg = some (.lst (nats rs)) ∧ high - low ≤ f ∧ sH f low high ls rs = cover S st sp ∧ ls.length + rs.length + 2 * f ≤ 20000,
  ⟨_, S + st, S + sp, sp - st, [], [], rfl, rfl, smA, by rw [aH nlr, au]; rfl, au, by omega, rfl, by simp; omega⟩, ?_⟩
 rintro m σ H' ⟨low, high, f, ls, rs, rfl, rfl, sm, hl, hrr, hf, hw, hz⟩
 refine ⟨_, rfl, _, rfl, _, _, rfl, rfl, _, rfl, aP (fun c => ?_) fun c => ?_⟩
 ·have c : (low : Int) < (high : Int) := of_decide_eq_true c
  obtain ⟨f, rfl⟩ : ∃ g, f = g + 1 := ⟨f - 1, by omega⟩
  unfold sH at hw
  rw [if_pos (by omega)] at hw
  refine ⟨_, fun σ' H2 z => z, ?_⟩
  refine ⟨_, rfl, _, _, rfl, rfl, (by show (0 : Int) < 2; decide), rfl, _, rfl, ?_⟩
  refine mV (fun σ H2 => ∃ (ls2 : List Nat), σ = [some (.int (n : Int)), some (.int (st : Int)), some (.int (sp : Int)), some (.int (S : Int)), some (.int ((low + low % 2 : Nat) : Int)), some (.int (high : Int)), some (.ref lf), some (.ref rg)] ∧ ls2 = (if low % 2 = 1 then ls ++ [low] else ls) ∧ aY H H2 ∧ H2 lf = some (.lst (nats ls2)) ∧ H2 rg = some (.lst (nats rs))) (fun d => ?_) ?_ (fun d m => ?_)
  ·have d : ¬ (low : Int) % 2 = 1 := fun z => d (decide_eq_true (congrArg V.int z))
   refine ⟨ls, ?_, by rw [if_neg (by omega)], sm, hl, hrr⟩
   rw [show low + low % 2 = low from by omega]
  rotate_left
  ·have d : V.int ((low : Int) % 2) = V.int 1 := of_decide_eq_true d
   injection d with d
   refine ⟨_, rfl, .inl ⟨rfl, _, SqL.of hl⟩, _, rfl, lf, _, _, rfl, rfl, hl, ?_, ?_⟩
   ·rw [List.length_map, sizeLine_eq]
    omega
   refine ⟨_, rfl, _, _, rfl, rfl, m _ _ ⟨ls ++ [low], ?_, by rw [if_pos (by omega)], bL sm hlf _, ?_, ?_⟩⟩
   ·rw [show ((low + low % 2 : Nat) : Int) = (low : Int) + 1 from by omega]
    rfl
   ·rw [au]
    unfold nats
    rw [List.map_append]
    rfl
   ·rw [aH nlr.symm]
    exact hrr
  rintro σ2 H2 ⟨ls2, rfl, e2, sm2, hl2, hr2⟩
  refine ⟨_, rfl, _, _, rfl, rfl, (by show (0 : Int) < 2; decide), rfl, _, rfl, ?_⟩
  refine mV (fun σ H3 => ∃ (rs2 : List Nat), σ = [some (.int (n : Int)), some (.int (st : Int)), some (.int (sp : Int)), some (.int (S : Int)), some (.int ((low + low % 2 : Nat) : Int)), some (.int ((high - high % 2 : Nat) : Int)), some (.ref lf), some (.ref rg)] ∧ rs2 = (if high % 2 = 1 then rs ++ [high - 1] else rs) ∧ aY H H3 ∧ H3 lf = some (.lst (nats ls2)) ∧ H3 rg = some (.lst (nats rs2))) (fun d => ?_) ?_ (fun d m => ?_)
  ·have d : ¬ (high : Int) % 2 = 1 := fun z => d (decide_eq_true (congrArg V.int z))
   refine ⟨rs, ?_, by rw [if_neg (by omega)], sm2, hl2, hr2⟩
   rw [show high - high % 2 = high from by omega]
  rotate_left
  ·have d : V.int ((high : Int) % 2) = V.int 1 := of_decide_eq_true d
   injection d with d
   refine ⟨_, rfl, _, _, rfl, rfl, ?_⟩
   refine ⟨_, rfl, .inl ⟨rfl, _, SqL.of hr2⟩, _, rfl, rg, _, _, rfl, rfl, hr2, ?_, m _ _ ⟨rs ++ [high - 1], ?_, by rw [if_pos (by omega)], bL sm2 hrg0 _, ?_, ?_⟩⟩
   ·rw [List.length_map, sizeLine_eq]
    omega
   ·rw [show ((high - high % 2 : Nat) : Int) = (high : Int) - 1 from by omega]
    rfl
   ·rw [aH nlr]
    exact hl2
   ·rw [au]
    unfold nats
    rw [List.map_append]
    exact congrArg (fun v => some (HO.lst (rs.map (fun n : Nat => V.int (n : Int)) ++ [v]))) (congrArg V.int (show (high : Int) - 1 = ((high - 1 : Nat) : Int) from by omega))
  rintro σ3 H3 ⟨rs2, rfl, e3, sm3, hl3, hr3⟩
  rw [← e2, ← e3] at hw
  have z2 : ls2.length ≤ ls.length + 1 := by
   rw [e2]
   split <;> simp
  have z3 : rs2.length ≤ rs.length + 1 := by
   rw [e3]
   split <;> simp
  refine ⟨_, rfl, _, _, rfl, rfl, ⟨by decide, by decide⟩, ?_⟩
  refine ⟨_, rfl, _, _, rfl, rfl, ⟨by decide, by decide⟩, (high - high % 2) / 2 - (low + low % 2) / 2, by omega, (low + low % 2) / 2, (high - high % 2) / 2, f, ls2, rs2, ?_, rfl, sm3, hl3, hr3, by omega, hw, by omega⟩
  rw [show (((low + low % 2) / 2 : Nat) : Int) = ((low + low % 2 : Nat) : Int) / 2 from by omega, show (((high - high % 2) / 2 : Nat) : Int) = ((high - high % 2 : Nat) : Int) / 2 from by omega]
  rfl
 ·have c : ¬ (low : Int) < (high : Int) := fun z => c (decide_eq_true z)
  rw [Ce (by omega)] at hw
  refine ⟨_, rfl, _, rfl, rg, _, rfl, SqL.of hrr, fun l hl2 => ?_⟩
  have s2 := aA hl2 (.lst (nats rs).reverse)
  refine ⟨lf, l, _, _, rfl, rfl, s2 _ _ hl, au, ?_, fun r hr2 => ?_⟩
  ·rw [List.length_reverse, List.length_map, List.length_map, sizeLine_eq]
   omega
  refine q S r _ hS ((sm.trans s2).free hr2) (sm.trans (s2.trans (aA hr2 _))) ?_
  rw [au, ← hw]
  unfold nats
  rw [List.map_append, List.map_reverse]
def zJ : Sp := fun vs H Q _ => ∃ x y : V, vs = [x, y] ∧ NI x ∧ NI y ∧ Q (ud x y) H
theorem um (T : Tx K mg a) : bj P w K mg base CX0 1 a.f_lesser_of a.fd_lesser_of ["one", "other"] zJ := by
 refine T.D_lesser_of.F.ok uw (fun vs H Q E h => ?_) (fun cdv A outer s H vs Q E hr h => ?_)
 ·obtain ⟨x, y, rfl, _⟩ := h
  rfl
 obtain ⟨x, y, rfl, hx, hy, q⟩ := h
 refine ⟨_, (aj (aW (fV (iD (pv 0))) (aq (aB (pv 1))) aM)
  (aj (aW (fV (iD (pv 1))) (aq (aB (pv 0))) aM)
  (aq (aB (aU (jV rfl) rfl T.b_min Tw.jE (aa (pv 0) (aa (pv 1) ak))))))), ?_⟩
 rcases hx with rfl | ⟨i, rfl⟩
 ·rw [tu] at q
  exact ⟨_, rfl, _, rfl, dN ⟨_, rfl, q⟩⟩
 refine ⟨_, rfl, _, rfl, cW ?_⟩
 rcases hy with rfl | ⟨j, rfl⟩
 ·exact ⟨_, rfl, _, rfl, dN ⟨_, rfl, q⟩⟩
 exact ⟨_, rfl, _, rfl, cW ⟨_, rfl, _, rfl, i, j, rfl, q⟩⟩
def yx (K : PySem.W.Frag) : Sp := fun vs H Q E => ∃ (p : Addr) (ns : List Int), vs = [.ref p] ∧ SqL K H p (ns.map V.int) ∧
 ns.length ≤ 4096 ∧ ∀ S r H' xs, iu ns.length S → H r = none → aY H H' → H' r = some (.lst xs) → fG ns S 1 xs → Q (.ref r) H'
theorem yl (T : Tx K mg a) : bj P w K mg base CX0 2 a.f_heap_of a.fd_heap_of ["numbers"] (yx K) := by
 refine T.D_heap_of.F.ok iY (fun vs H Q E h => ?_) (fun cdv A outer s H vs Q E hr h => ?_)
 ·obtain ⟨p, ns, rfl, _⟩ := h
  rfl
 obtain ⟨p, ns, rfl, hS, hl, q⟩ := h
 refine ⟨_, (aj (aW (aL gU (aU bc rfl T.b_len Tw.cG (aa (pv 0) ak)) (bO (v := .int 4096) rfl T.c_MOST_NUMBERS ⟨_, rfl⟩) (aN _)) (aq cO) aM)
  (aj (aF (i := 1) iY.nd rfl (Or.inl rfl) (aD T.D_size_of (iQ T) (by decide) hr aK rfl (aa (aU bc rfl T.b_len Tw.cG (aa (pv 0) ak)) ak)))
  (aj (aF (i := 2) iY.nd rfl (Or.inl rfl) (az nj (az nj (az ur (cD (aa bW ak)) (pv 1)) (fL iU rfl T.b_list Tw.jO (aa (pv 0) ak))) (az ur (cD (aa bW ak)) (az bx (pv 1) (aU bc rfl T.b_len Tw.cG (aa (pv 0) ak))))))
  (aj (cB PassesOwn.never rfl (rD rfl T.b_range (aa (az bx (pv 1) ao) (aa ao (aa (tQ m9 ao) ak)))) (bw (i := 3) iY.nd rfl (Or.inl rfl)) (aq (oM (aD T.D_lesser_of (um T) (by decide) hr aK rfl (aa (aQ aR (pv 2) (az b8 ao (pv 3)) (fun _ _ => rfl)) (aa (aQ aR (pv 2) (az aV (az b8 ao (pv 3)) ao) (fun _ _ => rfl)) ak))) (uU (pv 2) (pv 3) set_list))))
  (aq (aB (pv 2))))))), ?_⟩
 have ern : (ns.map V.int).length = ns.length := List.length_map ..
 refine ⟨_, rfl, p, _, rfl, .inl hS, _, _, rfl, rfl, _, rfl, aP (fun z => ?_) fun _ => ?_⟩
 ·have z : (4096 : Int) < ((ns.map V.int).length : Int) := of_decide_eq_true z
  omega
 refine ⟨_, rfl, p, _, rfl, .inl hS, ns.length, ?_, by omega, fun S hSz => ?_⟩
 ·rw [ern]
  rfl
 have hS0 := hSz.pos
 have hS4 := hSz.le hl
 have hlS : ns.length ≤ S := by
  obtain ⟨_, _, z, _⟩ := hSz
  exact z
 refine yZ (t := Ej (tC .non) GZ) (σ := [some (.ref p), some (.int (S : Int)), none, none]) (i := 1) (k := (S : Int)) (xs := [.non]) (fun Q' q => q) rfl (by omega) (by decide) (by omega) fun p1 H1 hp1 s1 x1 => ?_
 refine ⟨_, rfl, p, _, rfl, .inl (s1.seq hS), fun l2 hl2 => ?_⟩
 have s2 := aA hl2 (.lst (ns.map V.int))
 have e1 : (List.replicate (S : Int).toNat [V.non]).flatten = List.replicate S V.non := by
  rw [Int.toNat_natCast]
  simp
 rw [e1] at x1
 refine ⟨p1, l2, _, _, rfl, rfl, s2 _ _ x1, au, ?_, fun p3 hp3 => ?_⟩
 ·rw [ern, List.length_replicate, sizeLine_eq]
  omega
 have s3 := aA hp3 (.lst (List.replicate S V.non ++ ns.map V.int))
 refine ⟨(by show 1 ≤ sizeLine; decide), fun l4 hl4 => ?_⟩
 have s4 := aA hl4 (.lst [.non])
 have s14 := s1.trans (s2.trans (s3.trans s4))
 refine ⟨_, rfl, _, rfl, p, _, rfl, .inl (s14.seq hS), _, _, rfl, rfl, l4, ((S - ns.length : Nat) : Int), [.non], rfl, ?_, au, by omega, by omega, ?_, fun p5 hp5 => ?_⟩
 ·show V.int ((S : Int) - ((ns.map V.int).length : Int)) = _
  rw [ern]
  exact congrArg V.int (by omega)
 ·rw [sizeLine_eq]
  show 1 * _ ≤ _
  omega
 have e5 : (List.replicate ((S - ns.length : Nat) : Int).toNat [V.non]).flatten = List.replicate (S - ns.length) V.non := by
  rw [Int.toNat_natCast]
  simp
 rw [e5]
 have s5 := aA hp5 (.lst (List.replicate (S - ns.length) V.non))
 refine ⟨p3, p5, _, _, rfl, rfl, s5 _ _ (s4 _ _ au), au, ?_, fun r hr' => ?_⟩
 ·rw [List.length_append, ern, List.length_replicate, List.length_replicate, sizeLine_eq]
  omega
 have s15 := s14.trans s5
 have hr0 := s15.free hr'
 have s6 := s15.trans (aA hr' (.lst (List.replicate S V.non ++ ns.map V.int ++ List.replicate (S - ns.length) V.non)))
 refine ⟨_, rfl, _, _, rfl, rfl, _, rfl, S - 1, 0, ?_, by omega, by omega, ?_⟩
 ·rw [show ((S - 1 : Nat) : Int) = (S : Int) - 1 from by omega]
  rfl
 refine vZ (n := S - 1 - 0) (fun i σ H' => (∃ k3, σ = [some (.ref p), some (.int (S : Int)), some (.ref r), k3]) ∧ aY H H' ∧ ∃ xs, H' r = some (.lst xs) ∧ fG ns S (S - i) xs) ⟨⟨none, rfl⟩, s6, _, au, fG.start hS0 hlS⟩ ?_ ?_
 ·rintro i σ H' hi ⟨⟨k3, rfl⟩, sm, xs, hr1, hv⟩
  obtain ⟨k, rfl⟩ : ∃ k, S = k + i + 1 := ⟨S - i - 1, by omega⟩
  have ek : ((k + i + 1 - 1 : Nat) : Int) + (i : Int) * (-1) = (k : Int) := by omega
  rw [show k + i + 1 - i = k + 1 from by omega] at hv
  have hlen := hv.len
  have hx : xs[2 * k]? = some xs[2 * k] := List.getElem?_eq_getElem (by omega)
  have hy : xs[2 * k + 1]? = some xs[2 * k + 1] := List.getElem?_eq_getElem (by omega)
  have ha : atI xs (2 * (((k + i + 1 - 1 : Nat) : Int) + (i : Int) * (-1))) = some xs[2 * k] := by
   rw [ek, show 2 * (k : Int) = ((2 * k : Nat) : Int) from by omega]
   exact cH hx
  have hb : atI xs (2 * (((k + i + 1 - 1 : Nat) : Int) + (i : Int) * (-1)) + 1) = some xs[2 * k + 1] := by
   rw [ek, show 2 * (k : Int) + 1 = ((2 * k + 1 : Nat) : Int) from by omega]
   exact cH hy
  have hix : ixN xs.length (((k + i + 1 - 1 : Nat) : Int) + (i : Int) * (-1)) = some k := by
   rw [ek]
   exact Du (by omega)
  refine ⟨_, rfl, _, rfl, _, _, rfl, rfl, .inl ⟨by decide, by decide⟩, r, _, _, _, rfl, rfl, SqL.of hr1, ha, ?_⟩
  refine ⟨_, rfl, _, rfl, _, _, rfl, rfl, .inl ⟨by decide, by decide⟩, _, _, rfl, rfl, r, _, _, _, rfl, rfl, SqL.of hr1, hb, ?_⟩
  refine ⟨_, _, rfl, hv.ni _ (List.getElem_mem _), hv.ni _ (List.getElem_mem _), ?_⟩
  refine ⟨_, rfl, _, rfl, r, _, _, k, rfl, rfl, hr1, hix, ⟨_, rfl⟩, bL sm hr0 _, _, au, ?_⟩
  rw [show k + i + 1 - (i + 1) = k from by omega]
  exact hv.step (by omega) (by omega) hx hy
 ·rintro σ H' ⟨⟨k3, rfl⟩, sm, xs, hr1, hv⟩
  rw [show S - (S - 1 - 0) = 1 from by omega] at hv
  exact ⟨_, rfl, q S r H' xs hSz hr0 sm hr1 hv⟩
def yf (K : PySem.W.Frag) : Sp := fun vs H Q _ => ∃ (p : Addr) (ns : List Int), vs = [.ref p] ∧ SqL K H p (ns.map V.int) ∧ ∀ b H', (b = true ↔ Tree ns) → aY H H' → Q (.bl b) H'
theorem yq (T : Tx K mg a) : bj P w K mg base CX0 1 a.f_is_tree a.fd_is_tree ["bits"] (yf K) := by
 refine T.D_is_tree.F.ok fP (fun vs H Q E h => ?_) (fun cdv A outer s H vs Q E hr h => ?_)
 ·obtain ⟨p, ns, rfl, _⟩ := h
  rfl
 obtain ⟨p, ns, rfl, hS, q⟩ := h
 refine ⟨_, (aj (aF (i := 1) fP.nd rfl (Or.inl rfl) ao)
  (aj (cB PassesOwn.never rfl (uH rfl T.b_enumerate (aa (pv 0) ak)) (ju rfl (bQ (bw (i := 2) fP.nd rfl (Or.inl rfl)) (bQ (bw (i := 3) fP.nd rfl (Or.inl rfl)) gr))) (aj (aW (PW.pt (jk (aL gU (pv 2) ao (aN _)) (iW (aL di (pv 1) ao (aN _))))) (aq (aB zg)) aM)
  (aq (aF (i := 1) fP.nd rfl (Or.inl rfl) (az bx (az aV (pv 1) (az b8 ao (pv 3))) ao)))))
  (aq (aB (nZ (iM tZ (aU bc rfl T.b_len Tw.cG (aa (pv 0) ak)) ao (aN _)) (nW (iM bY (pv 1) ao (aN _)))))))), ?_⟩
 refine ⟨_, rfl, p, _, rfl, hS, ?_⟩
 refine vY (xs := ns.map V.int) (fun i σ H' => (∃ k2 k3, σ = [some (.ref p), some (.int (ht ns i)), k2, k3]) ∧ aY H H' ∧ ∀ k, 0 < k → k < i → 0 < ht ns k) ⟨⟨none, none, by rw [dY]; rfl⟩, aY.refl _, fun k _ h => absurd h (Nat.not_lt_zero _)⟩ ?_ ?_ ?_
 ·rintro i σ H' _ ⟨_, sm, _⟩
  exact sm.seq hS
 ·rintro i x σ H' pt hx ⟨⟨k2, k3, rfl⟩, sm, up⟩ hpt
  obtain ⟨b, hb, rfl⟩ := int_at hx
  have hi := (List.getElem?_eq_some_iff.mp hb).1
  have sm' := sm.trans (aA hpt (.tup [.int (i : Int), .int b]))
  refine ⟨pt, _, rfl, SqT.of au, rfl, _, _, rfl, _, _, rfl, rfl, ?_⟩
  have go : (0 < i → 0 < ht ns i) → (∃ k2 k3, [some (V.ref p), some (.int (ht ns i + 2 * b - 1)), some (.int (i : Int)), some (.int b)] = [some (.ref p), some (.int (ht ns (i + 1))), k2, k3]) ∧ aY H (upd H' pt (.tup [.int (i : Int), .int b])) ∧ ∀ k, 0 < k → k < i + 1 → 0 < ht ns k := fun h =>
   ⟨⟨_, _, by rw [dB hb]⟩, sm', fun k k0 k1 => by
    rcases Nat.lt_or_ge k i with l | l
    ·exact up k k0 l
    ·have : k = i := by omega
     subst this
     exact h k0⟩
  refine ⟨_, rfl, _, _, rfl, rfl, _, rfl, aP (fun c1 => ?_) fun c1 => ?_⟩
  ·have c1 : (0 : Int) < (i : Int) := of_decide_eq_true c1
   refine ⟨_, rfl, _, _, rfl, rfl, _, rfl, aP (fun c2 => ?_) fun c2 => ?_⟩
   ·have c2 : ht ns i ≤ 0 := of_decide_eq_true c2
    exact q false _ ⟨fun z => absurd z Bool.false_ne_true, fun t => by have := t.2.2 i (by omega) hi; omega⟩ sm'
   ·have c2 : ¬ ht ns i ≤ 0 := fun z => c2 (decide_eq_true z)
    exact ⟨_, rfl, _, rfl, _, _, rfl, rfl, .inl ⟨by decide, by decide⟩, _, _, rfl, rfl, _, _, rfl, rfl, go fun _ => by omega⟩
  ·have c1 : ¬ (0 : Int) < (i : Int) := fun z => c1 (decide_eq_true z)
   refine cW ?_
   exact ⟨_, rfl, _, rfl, _, _, rfl, rfl, .inl ⟨by decide, by decide⟩, _, _, rfl, rfl, _, _, rfl, rfl, go fun z => by omega⟩
 ·rintro σ H' ⟨⟨k2, k3, rfl⟩, sm, up⟩
  rw [List.length_map] at up ⊢
  refine ⟨_, rfl, p, _, rfl, .inl (sm.seq hS), _, _, rfl, rfl, _, rfl, aP (fun c1 => ?_) fun c1 => ?_⟩
  ·have c1 : (2 : Int) ≤ ((ns.map V.int).length : Int) := of_decide_eq_true c1
   rw [List.length_map] at c1
   refine ⟨_, rfl, rfl, ?_⟩
   refine q _ H' ?_ sm
   rw [decide_eq_true_iff]
   exact ⟨fun z => ⟨by omega, V.int.inj z, up⟩, fun t => congrArg V.int t.2.1⟩
  ·have c1 : ¬ (2 : Int) ≤ ((ns.map V.int).length : Int) := fun z => c1 (decide_eq_true z)
   rw [List.length_map] at c1
   exact q false H' ⟨fun z => absurd z Bool.false_ne_true, fun t => by have := t.1; omega⟩ sm
structure Tab (H : Hp) (t ah : Addr) (ns : List Int) (rest : List V) : Prop where
 tup : H t = some (.tup (.int (ns.length : Int) :: .ref ah :: rest))
 ahs : H ah = some (.tup ((ahd ns (many ns.length)).map V.int))
 few : rest.length ≤ 1
theorem Tab.same {H H' : Hp} {t ah : Addr} {ns : List Int} {rest : List V} (h : Tab H t ah ns rest) (s : aY H H') : Tab H' t ah ns rest := ⟨s _ _ h.tup, s _ _ h.ahs, h.few⟩
theorem jT (x y : V) : ∀ rest : List V, rest.length ≤ 1 → atI (x :: y :: rest) 0 = some x
 | [], _ => rfl
 | [_], _ => rfl
 | _ :: _ :: _, h => absurd h (by simp)
theorem pX (x y : V) : ∀ rest : List V, rest.length ≤ 1 → atI (x :: y :: rest) 1 = some y
 | [], _ => rfl
 | [_], _ => rfl
 | _ :: _ :: _, h => absurd h (by simp)
theorem BK {ns : List Int} {n j : Nat} (h : j ≤ n) : atI ((ahd ns n).map V.int) (j : Int) = some (.int (ns.take (32 * j)).sum) := jP (lV h)
def wG (K : PySem.W.Frag) : Sp := fun vs H Q _ => ∃ (p : Addr) (ns : List Int), vs = [.ref p] ∧ SqL K H p (ns.map V.int) ∧ ns.length ≤ 4096 ∧ bu ns ∧
 ∀ r b t ah H', H b = none → aY H H' → H' r = some (.tup [.ref t, .ref b]) → Tab H' t ah ns [] → H' b = some (.lst ((cV ns).map V.int)) → Q (.ref r) H'
theorem v7 (T : Tx K mg a) : bj P w K mg base CX0 5 a.f_kept_row a.fd_kept_row ["bits"] (wG K) := by
 refine T.D_kept_row.F.ok o7 (fun vs H Q E h => ?_) (fun cdv A outer s H vs Q E hr h => ?_)
 ·obtain ⟨p, ns, rfl, _⟩ := h
  rfl
 obtain ⟨p, ns, rfl, hS, hl, hb, q⟩ := h
 refine ⟨_, (aj (aF (i := 1) o7.nd rfl (Or.inl rfl) (aD T.D_packed (zE T) (by decide) hr aK rfl (aa (pv 0) ak)))
  (aq (aB (oR (aa (oR (aa (aU bc rfl T.b_len Tw.cG (aa (pv 0) ak)) (aa (aD T.D_ahead_of (wI T) (by decide) hr aK rfl (aa (pv 1) ak)) ak))) (aa (pv 1) ak)))))), ?_⟩
 refine ⟨_, rfl, p, ns, rfl, hS, hl, hb, fun b H1 hb0 sm1 h1 => ?_⟩
 refine ⟨_, rfl, p, _, rfl, .inl (sm1.seq hS), _, rfl, b, cV ns, rfl, SqL.of h1, ?_, fun ah H2 hah sm2 h2 => ?_⟩
 ·rw [fJ]
  unfold many
  omega
 rw [uR hb] at h2
 have ern : (ns.map V.int).length = ns.length := List.length_map ..
 rw [ern]
 refine ⟨(by show 2 ≤ sizeLine; decide), fun t ht => ⟨_, rfl, (by show 2 ≤ sizeLine; decide), fun r hr' => ?_⟩⟩
 have s3 := aA ht (.tup [.int (ns.length : Int), .ref ah])
 have s4 := aA hr' (.tup [.ref t, .ref b])
 exact q r b t ah _ hb0 (sm1.trans (sm2.trans (s3.trans s4))) au ⟨s4 _ _ au, s4 _ _ (s3 _ _ h2), by decide⟩ (s4 _ _ (s3 _ _ (sm2 _ _ h1)))
def mq (K : PySem.W.Frag) : Sp := fun vs H Q _ => ∃ (p : Addr) (ns : List Int), vs = [.ref p] ∧ SqL K H p (ns.map V.int) ∧ ns.length ≤ 4096 ∧ bu ns ∧ Tree ns ∧ ∀ H', aY H H' → Q .non H'
theorem lQ (T : Tx K mg a) : bj P w K mg base CX0 2 a.f_check_brackets a.fd_check_brackets ["bits"] (mq K) := by
 refine T.D_check_brackets.F.ok mJ (fun vs H Q E h => ?_) (fun cdv A outer s H vs Q E hr h => ?_)
 ·obtain ⟨p, ns, rfl, _⟩ := h
  rfl
 obtain ⟨p, ns, rfl, hS, hl, hb, ht, q⟩ := h
 refine ⟨_, (aj (bz (aD T.D_check_row (mj T) (by decide) hr aK rfl (aa (pv 0) ak)))
  (aq (aW (lw (ux (aD T.D_is_tree (yq T) (by decide) hr aK rfl (aa (pv 0) ak)))) (aq cO) aM))), ?_⟩
 refine ⟨_, rfl, p, ns, rfl, hS, hl, hb, ?_⟩
 refine ⟨_, rfl, p, ns, rfl, hS, fun b H' hbt sm => ?_⟩
 have : b = true := hbt.mpr ht
 subst this
 exact ⟨true, rfl, cW (q H' sm)⟩
def yE : Sp := fun vs H Q _ => ∃ (t ah : Addr) (ns : List Int) (rest : List V) (j : Nat), vs = [.ref t, .int (j : Int)] ∧ Tab H t ah ns rest ∧ j ≤ many ns.length ∧ Q (.int (ht ns (32 * j))) H
theorem jc (T : Tx K mg a) : bj P w K mg base CX0 1 a.f_base_of a.fd_base_of ["tables", "number"] yE := by
 refine T.D_base_of.F.ok xH (fun vs H Q E h => ?_) (fun cdv A outer s H vs Q E hr h => ?_)
 ·obtain ⟨t, ah, ns, rest, j, rfl, _⟩ := h
  rfl
 obtain ⟨t, ah, ns, rest, j, rfl, hT, hj, q⟩ := h
 refine ⟨_, (aq (aB (az bx (az b8 ao (aQ bC (aQ bC (pv 0) ao (fun _ _ => rfl)) (pv 1) (fun _ _ => rfl))) (az b8 (bO (v := .int 32) rfl T.c_BLOCK_BITS ⟨_, rfl⟩) (pv 1))))), ?_⟩
 refine ⟨_, rfl, t, _, _, _, rfl, rfl, SqT.of hT.tup, pX _ _ _ hT.few, _, rfl, ah, _, _, _, rfl, rfl, SqT.of hT.ahs, BK hj, _, _, rfl, rfl, .inl ⟨by decide, by decide⟩, _, rfl, _, _, rfl, rfl, .inl ⟨by decide, by decide⟩, _, _, rfl, rfl, ?_⟩
 unfold ht at q
 rw [show ((32 * j : Nat) : Int) = 32 * (j : Int) from by omega] at q
 exact q
def sO : Sp := fun vs H Q _ => ∃ (j n : Nat), vs = [.int (j : Int), .int (n : Int)] ∧ 32 * j ≤ n ∧ Q (.int (wide n j : Nat)) H
theorem dZ (T : Tx K mg a) : bj P w K mg base CX0 1 a.f_end_within a.fd_end_within ["number", "upto"] sO := by
 refine T.D_end_within.F.ok sr (fun vs H Q E h => ?_) (fun cdv A outer s H vs Q E hr h => ?_)
 ·obtain ⟨j, n, rfl, _⟩ := h
  rfl
 obtain ⟨j, n, rfl, hj, q⟩ := h
 refine ⟨_, (aq (aB (aU (jV rfl) rfl T.b_min Tw.jE (aa (az bx (pv 1) (az b8 (bO (v := .int 32) rfl T.c_BLOCK_BITS ⟨_, rfl⟩) (pv 0))) (aa (bO (v := .int 32) rfl T.c_BLOCK_BITS ⟨_, rfl⟩) ak))))), ?_⟩
 refine ⟨_, rfl, _, rfl, _, _, rfl, rfl, .inl ⟨by decide, by decide⟩, _, _, rfl, rfl, _, _, rfl, ?_⟩
 have e : (if (32 : Int) < (n : Int) - 32 * (j : Int) then (32 : Int) else (n : Int) - 32 * (j : Int)) = ((wide n j : Nat) : Int) := by
  unfold wide
  split <;> omega
 rw [← e] at q
 exact q
def zM : Sp := fun vs H Q _ => ∃ (t ah : Addr) (ns : List Int) (rest : List V) (j : Nat), vs = [.ref t, .int (j : Int), .int (bK ns j)] ∧ Tab H t ah ns rest ∧ bu ns ∧ 32 * j < ns.length ∧ ∀ m H', sY ns j m → aY H H' → Q (.int m) H'
theorem Ah (T : Tx K mg a) : bj P w K mg base CX0 5 a.f_low_of a.fd_low_of ["tables", "number", "block"] zM := by
 refine T.D_low_of.F.ok zK (fun vs H Q E h => ?_) (fun cdv A outer s H vs Q E hr h => ?_)
 ·obtain ⟨t, ah, ns, rest, j, rfl, _⟩ := h
  rfl
 obtain ⟨t, ah, ns, rest, j, rfl, hT, hb, hj, q⟩ := h
 refine ⟨_, (aq (aB (az aV (aD T.D_base_of (jc T) (by decide) hr aK rfl (aa (pv 0) (aa (pv 1) ak))) (aD T.D_low_in (zG T) (by decide) hr aK rfl (aa (pv 2) (aa (aD T.D_end_within (dZ T) (by decide) hr aK rfl (aa (pv 1) (aa (aQ bC (pv 0) ao (fun _ _ => rfl)) ak))) ak)))))), ?_⟩
 have hm : j ≤ many ns.length := by
  unfold many
  omega
 have hw : 1 ≤ wide ns.length j ∧ wide ns.length j ≤ 32 := by
  unfold wide
  omega
 refine ⟨_, rfl, _, rfl, t, ah, ns, rest, j, rfl, hT, hm, ?_⟩
 refine ⟨_, rfl, _, rfl, _, rfl, t, _, _, _, rfl, rfl, SqT.of hT.tup, jT _ _ _ hT.few, j, ns.length, rfl, by omega, ?_⟩
 refine ⟨bK ns j, ((wide ns.length j : Nat) : Int), rfl, by omega, by omega, fun M H' hM sm => ⟨_, _, rfl, rfl, ?_⟩⟩
 rw [Int.toNat_natCast] at hM
 exact q _ H' (sY.of hb hM.1 hM.2) sm
structure KB (H : Hp) (t ah nd bl : Addr) (ns lows : List Int) (S : Nat) (xs : List V) : Prop where
 tab : Tab H t ah ns [.ref nd]
 nds : H nd = some (.tup xs)
 bls : H bl = some (.lst ((cV ns).map V.int))
 low : uy ns lows
 sz : iu lows.length S
 heap : fG lows S 1 xs
def nH (K : PySem.W.Frag) : Sp := fun vs H Q _ => ∃ (p : Addr) (ns : List Int), vs = [.ref p] ∧ SqL K H p (ns.map V.int) ∧ ns.length ≤ 4096 ∧ bu ns ∧ Tree ns ∧
 ∀ r t ah nd bl lows S xs H', H bl = none → H r = none → H t = none → aY H H' → H' r = some (.tup [.ref t, .ref bl]) → KB H' t ah nd bl ns lows S xs → Q (.ref r) H'
theorem oA (T : Tx K mg a) : bj P w K mg base CX0 6 a.f_kept_brackets a.fd_kept_brackets ["bits"] (nH K) := by
 refine T.D_kept_brackets.F.ok cF (fun vs H Q E h => ?_) (fun cdv A outer s H vs Q E hr h => ?_)
 ·obtain ⟨p, ns, rfl, _⟩ := h
  rfl
 obtain ⟨p, ns, rfl, hS, hl, hb, ht, q⟩ := h
 refine ⟨_, (aj (bz (aD T.D_check_brackets (lQ T) (by decide) hr aK rfl (aa (pv 0) ak)))
  (aj (aF (i := 1) cF.nd rfl (Or.inl rfl) (aD T.D_kept_row (v7 T) (by decide) hr aK rfl (aa (pv 0) ak)))
  (aj (aF (i := 2) cF.nd rfl (Or.inr rfl) (aQ bC (pv 1) ao (fun _ _ => rfl)))
  (aj (aF (i := 3) cF.nd rfl (Or.inl rfl) (aQ bC (pv 1) ao (fun _ _ => rfl)))
  (aj (vC (i := 4) cF.nd rfl rfl rfl ⟨(dg.one (j := 2) rfl (Or.inl rfl) rfl rfl (Or.inl rfl)), rfl, by decide⟩ (uH rfl T.b_enumerate (aa (pv 3) ak)) (fun _ _ _ _ => (aD T.D_low_of (Ah T) (by decide) hr aK rfl (aa (pv 2) (aa (pv 0) (aa (pv 1) ak))))))
  (aq (aB (oR (aa (oR (aa (aQ bC (pv 2) ao (fun _ _ => rfl)) (aa (aQ bC (pv 2) ao (fun _ _ => rfl)) (aa (fL j4 rfl T.b_tuple Tw.vD (aa (aD T.D_heap_of (yl T) (by decide) hr aK rfl (aa (pv 4) ak)) ak)) ak)))) (aa (pv 3) ak)))))))))), ?_⟩
 refine ⟨_, rfl, p, ns, rfl, hS, hl, hb, ht, fun H1 s1 => ?_⟩
 refine ⟨_, rfl, p, ns, rfl, s1.seq hS, hl, hb, fun r b t ah H2 hb0 s2 xr hT xb => ?_⟩
 refine ⟨_, rfl, r, _, _, _, rfl, rfl, SqT.of xr, rfl, ?_⟩
 refine ⟨_, rfl, r, _, _, _, rfl, rfl, SqT.of xr, rfl, ?_⟩
 have hpl := fJ ns
 have hml : many ns.length ≤ 128 := by
  unfold many
  omega
 refine ⟨_, rfl, b, _, rfl, SqL.of xb, ?_⟩
 refine yC (sY ns) (SqL.of xb) (by rw [hpl, sizeLine_eq]; omega) (fun i c H' Q hc sm qq => ?_) fun D H3 ls hD s3 xD hlen hR => ?_
 ·have hi := (List.getElem?_eq_some_iff.mp hc).1
  rw [hpl] at hi
  rw [dD hi] at hc
  cases hc
  refine ⟨_, rfl, _, rfl, _, rfl, t, ah, ns, [], i, rfl, hT.same sm, hb, ?_, qq⟩
  unfold many at hi
  omega
 have hLo : uy ns ls := ⟨by rw [hlen, hpl], hR⟩
 refine ⟨_, rfl, t, _, _, _, rfl, rfl, SqT.of (s3 _ _ hT.tup), rfl, ?_⟩
 refine ⟨_, rfl, t, _, _, _, rfl, rfl, SqT.of (s3 _ _ hT.tup), rfl, ?_⟩
 refine ⟨_, rfl, D, ls, rfl, SqL.of xD, by omega, fun S r4 H4 xs hSz hr4 s4 x4 hv => ?_⟩
 refine ⟨r4, _, rfl, .inl ⟨SqL.of x4, fun nd hnd => ?_⟩⟩
 have s5 := aA hnd (.tup xs)
 refine ⟨(by show 3 ≤ sizeLine; decide), fun t6 ht6 => ?_⟩
 have s6 := aA ht6 (.tup [.int (ns.length : Int), .ref ah, .ref nd])
 refine ⟨_, rfl, (by show 2 ≤ sizeLine; decide), fun r7 hr7 => ?_⟩
 have s7 := aA hr7 (.tup [.ref t6, .ref b])
 have sA := s3.trans (s4.trans (s5.trans (s6.trans s7)))
 refine q r7 t6 ah nd b ls S xs _ (s1.free hb0) ((s1.trans (s2.trans (s3.trans (s4.trans (s5.trans s6))))).free hr7) ((s1.trans (s2.trans (s3.trans (s4.trans s5)))).free ht6) (s1.trans (s2.trans sA)) au ⟨⟨s7 _ _ au, sA _ _ hT.ahs, Nat.le_refl _⟩, s7 _ _ (s6 _ _ au), sA _ _ xb, hLo, hSz, hv⟩
def pK : Sp := fun vs H Q _ => ∃ (p : Addr) (ds : List Int), vs = [.ref p] ∧ H p = some (.lst (ds.map V.int)) ∧ bD ds ∧ ds.length ≤ 2048 ∧ ∀ H', aY H H' → Q .non H'
theorem pJ (T : Tx K mg a) : bj P w K mg base CX0 1 a.f_check_depths a.fd_check_depths ["depths"] pK := by
 refine T.D_check_depths.F.ok eY (fun vs H Q E h => ?_) (fun cdv A outer s H vs Q E hr h => ?_)
 ·obtain ⟨p, ds, rfl, _⟩ := h
  rfl
 obtain ⟨p, ds, rfl, hp, hg, hl, q⟩ := h
 refine ⟨_, (aj (aW (aL gU (aU bc rfl T.b_len Tw.cG (aa (pv 0) ak)) (bO (v := .int 2048) rfl T.c_MOST_NODES ⟨_, rfl⟩) (aN _)) (aq cO) aM)
  (aj (aW (PW.pt (pq (aL bY (aU bc rfl T.b_len Tw.cG (aa (pv 0) ak)) ao (aN _)) (lA (aL yJ (aQ aR (pv 0) ao (fun _ _ => rfl)) ao (aN _))))) (aq cO) aM)
  (aq (cB PassesOwn.never rfl (Gh rfl T.b_zip Tw.Ex (aa (pv 0) (aa (il jQ (pv 0) (iV ao) lU) ak))) (ju rfl (bQ (bw (i := 1) eY.nd rfl (Or.inl rfl)) (bQ (bw (i := 2) eY.nd rfl (Or.inl rfl)) gr))) (aq (aW (lw (qZ di di ao (pv 2) (az aV (pv 1) ao))) (aq cO) aM)))))), ?_⟩
 have ern : (ds.map V.int).length = ds.length := List.length_map ..
 have h0 : 0 < ds.length := (List.getElem?_eq_some_iff.mp hg.1).1
 refine ⟨_, rfl, p, _, rfl, .inl (SqL.of hp), _, _, rfl, rfl, _, rfl, aP (fun c => ?_) fun c => ?_⟩
 ·have c : (2048 : Int) < ((ds.map V.int).length : Int) := of_decide_eq_true c
  rw [ern] at c
  omega
 refine ⟨_, rfl, p, _, rfl, .inl (SqL.of hp), rfl, _, rfl, aP (fun c => ?_) fun c => ?_⟩
 ·have c : V.int ((ds.map V.int).length : Int) = V.int 0 := of_decide_eq_true c
  injection c with c
  rw [ern] at c
  omega
 refine ⟨_, rfl, p, _, _, _, rfl, rfl, SqL.of hp, jP (i := 0) hg.1, rfl, _, rfl, tH rfl ?_⟩
 refine ⟨_, rfl, _, rfl, _, rfl, p, _, rfl, SqL.of hp, fun c hc => ?_⟩
 have s1 := aA hc (.lst (jo (ds.map V.int) (some 1) none))
 have ec : jo (ds.map V.int) (some 1) none = (ds.drop 1).map V.int := vz ds 1
 have xc : upd H c (.lst (jo (ds.map V.int) (some 1) none)) c = some (.lst ((ds.drop 1).map V.int)) := by rw [au, ec]
 generalize upd H c (.lst (jo (ds.map V.int) (some 1) none)) = H1 at *
 refine ⟨p, c, _, _, rfl, SqL.of (s1 _ _ hp), SqL.of xc, ?_⟩
 refine De (xs := ds.map V.int) (ys := (ds.drop 1).map V.int) (fun i σ H' => (∃ k1 k2, σ = [some (.ref p), k1, k2]) ∧ aY H1 H') ⟨⟨none, none, rfl⟩, aY.refl _⟩ ?_ ?_ ?_
 ·rintro i σ H' _ ⟨_, sm⟩
  exact ⟨SqL.of (sm _ _ (s1 _ _ hp)), SqL.of (sm _ _ xc)⟩
 ·rintro i x y σ H' t hx hy ⟨⟨k1, k2, rfl⟩, sm⟩ ht
  obtain ⟨u, hu, rfl⟩ := int_at hx
  obtain ⟨v, hv, rfl⟩ := int_at hy
  rw [List.getElem?_drop, Nat.add_comm] at hv
  have hh := hg.2 i u v hu hv
  have s2 := aA ht (.tup [.int u, .int v])
  refine ⟨t, _, rfl, SqT.of au, rfl, _, _, rfl, _, _, rfl, rfl, ?_⟩
  exact ⟨_, rfl, _, _, rfl, rfl, _, rfl, aP (fun _ => ⟨_, rfl, _, _, rfl, rfl, _, _, rfl, rfl, _, rfl, tH hh.2 ⟨⟨_, _, rfl⟩, sm.trans s2⟩⟩) fun z => absurd (decide_eq_true hh.1) z⟩
 ·rintro σ H' ⟨_, sm⟩
  exact q H' (s1.trans sm)
def rA : Sp := fun vs H Q _ => ∃ (p : Addr) (ds : List Int), vs = [.ref p] ∧ H p = some (.lst (ds.map V.int)) ∧ bD ds ∧ ds.length ≤ 2048 ∧ ∀ r H', H r = none → aY H H' → H' r = some (.lst ((brk ds 0).map V.int)) → Q (.ref r) H'
theorem rn (T : Tx K mg a) : bj P w K mg base CX0 2 a.f_brackets_of a.fd_brackets_of ["depths"] rA := by
 refine T.D_brackets_of.F.ok cT (fun vs H Q E h => ?_) (fun cdv A outer s H vs Q E hr h => ?_)
 ·obtain ⟨p, ds, rfl, _⟩ := h
  rfl
 obtain ⟨p, ds, rfl, hp, hg, hl, q⟩ := h
 refine ⟨_, (aj (bz (aD T.D_check_depths (pJ T) (by decide) hr aK rfl (aa (pv 0) ak)))
  (aj (aF (i := 1) cT.nd rfl (Or.inl rfl) (cD ak))
  (aj (aF (i := 2) cT.nd rfl (Or.inl rfl) ao)
  (aj (cB PassesOwn.never rfl (dw (pv 0)) (bw (i := 3) cT.nd rfl (Or.inl rfl)) (aj (bz (ir PySem.F.plainAttrs_list PySem.F.slot_list_extend PySem.F.type_list_extend Al (pv 1) (aa (az ur (cD (aa ao ak)) (az bx (pv 2) (pv 3))) ak)))
  (aj (bz (ir PySem.F.plainAttrs_list PySem.F.slot_list_append PySem.F.type_list_append bT (pv 1) (aa ao ak)))
  (aq (aF (i := 2) cT.nd rfl (Or.inl rfl) (az aV (pv 3) ao))))))
  (aq (aB (az nj (pv 1) (az ur (cD (aa ao ak)) (pv 2))))))))), ?_⟩
 have hbl := iT hg.dp
 refine ⟨_, rfl, p, ds, rfl, hp, hg, hl, fun H1 s1 => ?_⟩
 refine ⟨(by show 0 ≤ sizeLine; decide), fun b hb => ?_⟩
 have s2 := s1.trans (aA hb (.lst []))
 have xb : upd H1 b (.lst []) b = some (.lst (([] : List Int).map V.int)) := au
 have hbH : H b = none := s1.free hb
 generalize upd H1 b (.lst []) = H2 at *
 refine ⟨_, rfl, p, rfl, ⟨_, SqL.of (s2 _ _ hp)⟩, ?_⟩
 refine dG (xs := ds.map V.int) (fun i σ H' => (∃ (u : Int) (k3 : Option V) (bs : List Int), σ = [some (.ref p), some (.ref b), some (.int u), k3] ∧ H' b = some (.lst (bs.map V.int)) ∧ bs ++ brk (ds.drop i) u = brk ds 0 ∧ Dp (ds.drop i) u) ∧ aY H H') ⟨⟨0, none, [], rfl, xb, rfl, hg.dp⟩, s2⟩ ?_ ?_ ?_
 ·rintro i σ H' _ ⟨_, sm⟩
  exact SqL.of (sm _ _ hp)
 ·rintro i x σ H' hx ⟨⟨u, k3, bs, rfl, xb', eb, hd⟩, sm⟩
  obtain ⟨d, hdi, rfl⟩ := int_at hx
  have hi := (List.getElem?_eq_some_iff.mp hdi).1
  have edr : ds.drop i = d :: ds.drop (i + 1) := by
   rw [List.drop_eq_getElem_cons hi]
   congr 1
   exact (List.getElem?_eq_some_iff.mp hdi).2
  rw [edr] at eb hd
  obtain ⟨d0, du, hd'⟩ := hd
  have hlen := congrArg List.length eb
  simp only [brk, List.length_append, List.length_replicate, List.length_cons] at hlen
  rw [hbl] at hlen
  have hu : u - d ≤ 4096 := by omega
  have ub : bs.length ≤ 4096 := by omega
  refine ⟨_, rfl, .inl ⟨rfl, _, SqL.of xb'⟩, ?_⟩
  refine ⟨(by show 1 ≤ sizeLine; decide), fun l1 h1 => ⟨_, rfl, _, rfl, _, _, rfl, rfl, l1, u - d, [.int 0], rfl, rfl, au, by omega, by omega, ?_, fun r1 hr1 => ?_⟩⟩
  ·rw [sizeLine_eq]
   show 1 * _ ≤ _
   omega
  have s3 := (aA h1 (.lst [.int 0])).trans (aA hr1 (.lst (List.replicate (u - d).toNat [.int 0]).flatten))
  have x3 : upd (upd H' l1 (.lst [.int 0])) r1 (.lst (List.replicate (u - d).toNat [.int 0]).flatten) r1 = some (.lst ((List.replicate (u - d).toNat (0 : Int)).map V.int)) := by
   rw [au, zf]
  have xb3 := s3 _ _ xb'
  have sm3 := sm.trans s3
  generalize upd (upd H' l1 (.lst [.int 0])) r1 (.lst (List.replicate (u - d).toNat [.int 0]).flatten) = H3 at *
  refine ⟨b, r1, _, _, rfl, rfl, xb3, x3, ?_, ?_⟩
  ·rw [List.length_map, List.length_map, List.length_replicate, sizeLine_eq]
   omega
  have x4 : upd H3 b (.lst (bs.map V.int ++ (List.replicate (u - d).toNat (0 : Int)).map V.int)) b = some (.lst ((bs ++ List.replicate (u - d).toNat 0).map V.int)) := by
   rw [au, List.map_append]
  have sm4 := bL sm3 hbH (.lst (bs.map V.int ++ (List.replicate (u - d).toNat (0 : Int)).map V.int))
  generalize upd H3 b (.lst (bs.map V.int ++ (List.replicate (u - d).toNat (0 : Int)).map V.int)) = H4 at *
  refine ⟨_, rfl, .inl ⟨rfl, _, SqL.of x4⟩, b, _, _, rfl, rfl, x4, ?_, ?_⟩
  ·rw [List.length_map, List.length_append, List.length_replicate, sizeLine_eq]
   omega
  refine ⟨_, rfl, _, _, rfl, rfl, ⟨d + 1, _, bs ++ List.replicate (u - d).toNat 0 ++ [1], rfl, ?_, ?_, hd'⟩, bL sm4 hbH _⟩
  ·rw [au, List.map_append (l₂ := [1])]
   rfl
  ·rw [← eb]
   simp [brk]
 ·rintro σ H' ⟨⟨u, k3, bs, rfl, xb', eb, hd⟩, sm⟩
  rw [List.length_map, List.drop_length] at eb hd
  have hu : 0 ≤ u := hd
  have hlen := congrArg List.length eb
  simp only [brk, List.length_append, List.length_replicate] at hlen
  rw [hbl] at hlen
  refine ⟨_, rfl, ?_⟩
  refine yZ (i := 2) (k := u) (xs := [.int 0]) (fun Q' q => q) rfl (by omega) (by decide) (by omega) fun p1 H4 hp1 s4 x4 => ?_
  rw [zf] at x4
  refine ⟨b, p1, _, _, rfl, rfl, s4 _ _ xb', x4, ?_, fun p2 hp2 => ?_⟩
  ·rw [List.length_map, List.length_map, List.length_replicate, sizeLine_eq]
   omega
  refine q p2 _ ((sm.trans s4).free hp2) (sm.trans (s4.trans (aA hp2 _))) ?_
  rw [au, ← List.map_append]
  exact congrArg (fun l : List Int => some (HO.lst (l.map V.int))) eb
def p8 : Sp := fun vs H Q E => ∃ at0 most : Int, vs = [.int at0, .int most] ∧ 0 ≤ at0 ∧ at0 ≤ most ∧ Q .non H
theorem dH (T : Tx K mg a) : bj P w K mg base CX0 1 a.f_check_place a.fd_check_place ["at", "most"] p8 := by
 refine T.D_check_place.F.ok ql (fun vs H Q E h => ?_) (fun cdv A outer s H vs Q E hr h => ?_)
 ·obtain ⟨p, m, rfl, _⟩ := h
  rfl
 obtain ⟨at0, most, rfl, h0, h1, q⟩ := h
 refine ⟨_, (aq (aW (PW.pt (pq (aL jg (pv 0) ao (aN _)) (lA (aL gU (pv 0) (pv 1) (aN _))))) (aq cO) aM)), ?_⟩
 refine ⟨_, rfl, _, _, rfl, rfl, _, rfl, aP (fun c => ?_) fun c => ?_⟩
 ·have c := of_decide_eq_true c
  omega
 refine ⟨_, rfl, _, rfl, _, _, rfl, rfl, _, rfl, aP (fun c2 => ?_) fun c2 => ?_⟩
 ·have c2 := of_decide_eq_true c2
  omega
 exact q
def mY : Addr → Sp := fun f vs H Q _ => ∃ (sn nd : Addr) (ss : List Int) (xs : List V) (n : Nat) (x : V), vs = [.int (n : Int)] ∧ Asks H f sn nd ss xs ∧ ss.length < 1000 ∧ xs[n]? = some x ∧ Q x (upd H sn (.lst ((ss ++ [(n : Int)]).map V.int)))
theorem bZ (T : Tx K mg a) : o4 P w K mg base 1 mY := by
 refine Fd mX (fun _ _ _ _ _ us hl => match us, hl with | [_], _ => rfl) fun f vs H Q h => ?_
 obtain ⟨sn, nd, ss, xs, n, x, rfl, ⟨⟨cs, ca⟩, h1, h2, ne, hls⟩, hl2, hg, q⟩ := h
 have o1 := jj.out ca h1
 have o2 := jj.out ca h2
 refine ⟨rfl, cs, [.ref sn, .ref nd], ca, fun cd A outer s hr => ⟨_, (aj (bz (ir PySem.F.plainAttrs_list PySem.F.slot_list_append PySem.F.type_list_append bT (pv 1) (aa (pv 0) ak)))
  (aj (aW (qZ di jg ao (pv 0) (aU bc rfl T.b_len Tw.cG (aa (pv 2) ak))) (aq (aB (aQ aR (pv 2) (pv 0) (fun _ _ => rfl)))) aM)
  (aq (aB ao)))), ?_⟩⟩
 have g1 : hide H cs sn = some (.lst (ss.map V.int)) := by rw [bR o1]; exact h1
 have g2 : upd (hide H cs) sn (.lst (ss.map V.int ++ [.int (n : Int)])) nd = some (.lst xs) := by rw [aH (Ne.symm ne), bR o2]; exact h2
 have hn := (List.getElem?_eq_some_iff.mp hg).1
 refine ⟨_, rfl, .inl ⟨rfl, _, SqL.of g1⟩, _, rfl, sn, _, _, rfl, rfl, g1, ?_, ?_⟩
 ·rw [List.length_map, sizeLine_eq]
  omega
 refine ⟨_, rfl, _, _, rfl, rfl, _, rfl, aP (fun _ => ?_) fun z => absurd (decide_eq_true (show (0 : Int) ≤ (n : Int) by omega)) z⟩
 refine ⟨_, rfl, nd, _, rfl, .inl (SqL.of g2), _, _, rfl, rfl, _, rfl, aP (fun _ => ?_) fun z => absurd (decide_eq_true (show (n : Int) < (xs.length : Int) by omega)) z⟩
 refine ⟨_, rfl, _, rfl, nd, _, _, _, rfl, rfl, SqL.of g2, cH hg, ?_⟩
 show Q x (over H cs (upd (hide H cs) sn (.lst (ss.map V.int ++ [.int (n : Int)]))))
 rw [Be o1, sU]
 rw [List.map_append] at q
 exact q
def wk (Pt : Addr) : Sp := fun vs H Q _ => ∃ (nd sn : Addr), vs = [.ref nd, .ref sn] ∧ TabAt H Pt (p7 cQ) bA.qual ∧
 ∀ f H2, H f = none → yL Pt H H2 → TabAt H2 Pt (p7 cQ) bA.qual → j9 H2 f sn nd → Q (.ref f) H2
theorem wJ (T : Tx K mg a) (B : Bs mg base a) : bj P w K mg base CX0 1 a.f_law_look a.fd_law_look ["_law_blocks", "_law_seen"] (wk a.tP_law_look) := by
 refine Fun.maker0 (T := bA) (pos := p7 cQ) T.D_law_look.F ph wN B.bm T.w_law_look B.C_law_look (fun vs H Q E h => ?_) rfl (fun vs H Q E h => ?_)
 ·obtain ⟨bl, sn, rfl, _⟩ := h
  rfl
 obtain ⟨nd, sn, rfl, hT, q⟩ := h
 refine ⟨hT, [.ref sn, .ref nd], fun j m e => ?_, rfl, fun fi cs H2 n1 n2 n3 n4 n5 => q fi H2 n1 n3 n4 ⟨cs, n5⟩⟩
 match j, e with
 | 0, e => cases e; exact ⟨_, rfl, rfl⟩
 | 1, e => cases e; exact ⟨_, rfl, rfl⟩
 | j + 2, e => simp at e
structure Ask (H : Hp) (t f sn bl ah : Addr) (ns ss : List Int) (rest : List V) : Prop where
 tab : Tab H t ah ns rest
 asks : Asks H f sn bl ss ((cV ns).map V.int)
 bits : bu ns
 len : ns.length ≤ 4096
theorem Ask.same {H H' : Hp} {t f sn bl ah : Addr} {ns ss : List Int} {rest : List V} (h : Ask H t f sn bl ah ns ss rest) (s : aY H H') : Ask H' t f sn bl ah ns ss rest := ⟨h.tab.same s, h.asks.same s, h.bits, h.len⟩
theorem Ask.more {H : Hp} {t f sn bl ah : Addr} {ns ss tt : List Int} {rest : List V} (h : Ask H t f sn bl ah ns ss rest) (hl : tt.length ≤ 1000) : Ask (L2.upd H sn (.lst (tt.map V.int))) t f sn bl ah ns tt rest :=
 ⟨⟨by rw [aH (fun z => by have := h.tab.tup; rw [z, h.asks.seen] at this; cases this)]; exact h.tab.tup, by rw [aH (fun z => by have := h.tab.ahs; rw [z, h.asks.seen] at this; cases this)]; exact h.tab.ahs, h.tab.few⟩, h.asks.more hl, h.bits, h.len⟩
def bU (n k : Nat) (ss ss' : List Int) : Prop := ∃ tt : List Int, ss' = ss ++ tt ∧ tt.length ≤ k ∧ ∀ x ∈ tt, 0 ≤ x ∧ x < n
theorem bU.none {n k : Nat} (ss : List Int) : bU n k ss ss := ⟨[], by simp, by simp, nofun⟩
theorem bU.one {n : Nat} (ss : List Int) {i : Int} (h0 : 0 ≤ i) (h1 : i < n) : bU n 1 ss (ss ++ [i]) := ⟨[i], rfl, by simp, fun x hx => by rw [List.mem_singleton.mp hx]; exact ⟨h0, h1⟩⟩
theorem bU.trans {n j k : Nat} {a b c : List Int} (h : bU n j a b) (h' : bU n k b c) : bU n (j + k) a c := by
 obtain ⟨t, rfl, l, m⟩ := h
 obtain ⟨u, rfl, l', m'⟩ := h'
 refine ⟨t ++ u, by rw [List.append_assoc], by rw [List.length_append]; omega, fun x hx => ?_⟩
 rcases List.mem_append.mp hx with hx | hx
 ·exact m x hx
 ·exact m' x hx
theorem bU.le {n j k : Nat} {a b : List Int} (h : bU n j a b) (hk : j ≤ k) : bU n k a b := by
 obtain ⟨t, e, l, m⟩ := h
 exact ⟨t, e, by omega, m⟩
theorem bU.len {n k : Nat} {a b : List Int} (h : bU n k a b) : b.length ≤ a.length + k := by
 obtain ⟨t, rfl, l, m⟩ := h
 rw [List.length_append]
 omega
def xu : Sp := fun vs H Q E => ∃ (t f sn bl ah : Addr) (ns ss : List Int) (rest : List V) (at0 : Nat), vs = [.ref t, .ref f, .int (at0 : Int)] ∧ Ask H t f sn bl ah ns ss rest ∧ ss.length < 1000 ∧ at0 ≤ ns.length ∧
 ∀ ss' H', bU (many ns.length) 1 ss ss' → aY (upd H sn (.lst (ss'.map V.int))) H' → Q (.int (ns.take at0).sum) H'
theorem kE (T : Tx K mg a) : bj P w K mg base CX0 4 a.f_ones_at a.fd_ones_at ["tables", "look", "at"] xu := by
 refine T.D_ones_at.F.ok fU (fun vs H Q E h => ?_) (fun cdv A outer s H vs Q E hr h => ?_)
 ·obtain ⟨t, f, sn, bl, ah, ns, ss, rest, at0, rfl, _⟩ := h
  rfl
 obtain ⟨t, f, sn, bl, ah, ns, ss, rest, at0, rfl, hA, hls, hat0, q⟩ := h
 refine ⟨_, (aj (aF (i := 3) fU.nd rfl (Or.inl rfl) (aQ bC (pv 0) ao (fun _ _ => rfl)))
  (aj (aF (i := 4) fU.nd rfl (Or.inl rfl) (aQ bC (pv 0) ao (fun _ _ => rfl)))
  (aj (bz (aD T.D_check_place (dH T) (by decide) hr aK rfl (aa (pv 2) (aa (pv 3) ak))))
  (aj (aF (i := 5) fU.nd rfl (Or.inl rfl) (az cg (pv 2) (bO (v := .int 32) rfl T.c_BLOCK_BITS ⟨_, rfl⟩)))
  (aj (aF (i := 6) fU.nd rfl (Or.inl rfl) (az bJ (pv 2) (bO (v := .int 32) rfl T.c_BLOCK_BITS ⟨_, rfl⟩)))
  (aj (aW (aL bY (pv 6) ao (aN _)) (aq (aB (aQ bC (pv 4) (pv 5) (fun _ _ => rfl)))) aM)
  (aq (aB (az aV (aQ bC (pv 4) (pv 5) (fun _ _ => rfl)) (aD T.D_ones_in (qz T) (by decide) hr aK rfl (aa (dh ((bZ T).mono (by decide)) hr (i := 1) rfl (aa (pv 5) ak)) (aa (pv 6) ak)))))))))))), ?_⟩
 refine ⟨_, rfl, t, _, _, _, rfl, rfl, SqT.of hA.tab.tup, jT _ _ _ hA.tab.few, ?_⟩
 refine ⟨_, rfl, t, _, _, _, rfl, rfl, SqT.of hA.tab.tup, pX _ _ _ hA.tab.few, ?_⟩
 refine ⟨_, rfl, _, rfl, _, _, rfl, by omega, by omega, ?_⟩
 refine ⟨_, rfl, _, _, rfl, rfl, ⟨by decide, by decide⟩, ?_⟩
 refine ⟨_, rfl, _, _, rfl, rfl, (by show (0 : Int) < 32; decide), ?_⟩
 have ej : (at0 : Int) / 32 = ((at0 / 32 : Nat) : Int) := by omega
 have hat : atI ((ahd ns (many ns.length)).map V.int) ((at0 : Int) / 32) = some (.int (ns.take (32 * (at0 / 32))).sum) := by
  rw [ej]
  exact BK (by unfold many; omega)
 refine ⟨_, rfl, rfl, _, rfl, aP (fun c => ?_) fun c => ?_⟩
 ·have c : V.int ((at0 : Int) % 32) = V.int 0 := of_decide_eq_true c
  injection c with c
  refine ⟨_, rfl, _, rfl, ah, _, _, _, rfl, rfl, SqT.of hA.tab.ahs, hat, ?_⟩
  have := q ss H (bU.none ss) (by rw [Ge hA.asks.seen]; exact aY.refl _)
  rw [show at0 = 32 * (at0 / 32) from by omega] at this
  exact this
 have c : (at0 : Int) % 32 ≠ 0 := fun z => c (decide_eq_true (congrArg V.int z))
 obtain ⟨o, fd, e1, g1⟩ := hA.asks.look.fn
 have hm : at0 / 32 < many ns.length := by
  unfold many
  omega
 have hg : ((cV ns).map V.int)[at0 / 32]? = some (.int (bK ns (at0 / 32))) := by
  rw [List.getElem?_map, dD hm]
  rfl
 refine ⟨_, rfl, _, rfl, ah, _, _, _, rfl, rfl, SqT.of hA.tab.ahs, hat, f, o, fd, rfl, e1, g1, _, rfl, e1, sn, bl, ss, _, at0 / 32, _, congrArg (fun v => [v]) (congrArg V.int ej), hA.asks, hls, hg, ?_⟩
 refine ⟨_, rfl, _, _, rfl, (show 0 ≤ (at0 : Int) % 32 from by omega), (show (at0 : Int) % 32 ≤ 32 from by omega), fun H' sm => ⟨_, _, rfl, rfl, ?_⟩⟩
 have := q (ss ++ [((at0 / 32 : Nat) : Int)]) H' (bU.one ss (by omega) (by omega)) sm
 have e : (ns.take at0).sum = (ns.take (32 * (at0 / 32))).sum + ones (bK ns (at0 / 32)) ((at0 : Int) % 32).toNat := by
  rw [jY hA.bits _ _ (by omega)]
  congr 2
  omega
 rw [e] at this
 exact this
def zY : Sp := fun vs H Q E => ∃ (t f sn bl ah : Addr) (ns ss : List Int) (rest : List V) (at0 : Nat), vs = [.ref t, .ref f, .int (at0 : Int)] ∧ Ask H t f sn bl ah ns ss rest ∧ ss.length < 1000 ∧ at0 ≤ ns.length ∧
 ∀ ss' H', bU (many ns.length) 1 ss ss' → aY (upd H sn (.lst (ss'.map V.int))) H' → Q (.int (ht ns at0)) H'
theorem gR (T : Tx K mg a) : bj P w K mg base CX0 5 a.f_height a.fd_height ["tables", "look", "at"] zY := by
 refine T.D_height.F.ok Aa (fun vs H Q E h => ?_) (fun cdv A outer s H vs Q E hr h => ?_)
 ·obtain ⟨t, f, sn, bl, ah, ns, ss, rest, at0, rfl, _⟩ := h
  rfl
 obtain ⟨t, f, sn, bl, ah, ns, ss, rest, at0, rfl, hA, hls, hat0, q⟩ := h
 refine ⟨_, (aq (aB (az bx (az b8 ao (aD T.D_ones_at (kE T) (by decide) hr aK rfl (aa (pv 0) (aa (pv 1) (aa (pv 2) ak))))) (pv 2)))), ?_⟩
 exact ⟨_, rfl, _, rfl, _, rfl, t, f, sn, bl, ah, ns, ss, rest, at0, rfl, hA, hls, hat0, fun ss' H' w sm => ⟨_, _, rfl, rfl, .inl ⟨by decide, by decide⟩, _, rfl, _, _, rfl, rfl, q ss' H' w sm⟩⟩
def zP : Sp := fun vs H Q E => ∃ (t f sn bl ah : Addr) (ns ss : List Int) (rest : List V) (at0 : Nat) (b : Int), vs = [.ref t, .ref f, .int (at0 : Int)] ∧ Ask H t f sn bl ah ns ss rest ∧ ss.length < 1000 ∧ ns[at0]? = some b ∧
 ∀ ss' H', bU (many ns.length) 1 ss ss' → aY (upd H sn (.lst (ss'.map V.int))) H' → Q (.int b) H'
theorem gY (T : Tx K mg a) : bj P w K mg base CX0 2 a.f_bit_at a.fd_bit_at ["tables", "look", "at"] zP := by
 refine T.D_bit_at.F.ok Am (fun vs H Q E h => ?_) (fun cdv A outer s H vs Q E hr h => ?_)
 ·obtain ⟨t, f, sn, bl, ah, ns, ss, rest, at0, b, rfl, _⟩ := h
  rfl
 obtain ⟨t, f, sn, bl, ah, ns, ss, rest, at0, b, rfl, hA, hls, hb, q⟩ := h
 have hat0 := (List.getElem?_eq_some_iff.mp hb).1
 refine ⟨_, (aj (bz (aD T.D_check_place (dH T) (by decide) hr aK rfl (aa (pv 2) (aa (az bx (aQ bC (pv 0) ao (fun _ _ => rfl)) ao) ak))))
  (aq (aB (aD T.D_bit_in (tK T) (by decide) hr aK rfl (aa (dh ((bZ T).mono (by decide)) hr (i := 1) rfl (aa (az cg (pv 2) (bO (v := .int 32) rfl T.c_BLOCK_BITS ⟨_, rfl⟩)) ak)) (aa (az bJ (pv 2) (bO (v := .int 32) rfl T.c_BLOCK_BITS ⟨_, rfl⟩)) ak)))))), ?_⟩
 refine ⟨_, rfl, _, rfl, t, _, _, _, rfl, rfl, SqT.of hA.tab.tup, jT _ _ _ hA.tab.few, _, _, rfl, rfl, _, _, rfl, by omega, by omega, ?_⟩
 obtain ⟨o, fd, e1, g1⟩ := hA.asks.look.fn
 have hm : at0 / 32 < many ns.length := by
  unfold many
  omega
 have hg : ((cV ns).map V.int)[at0 / 32]? = some (.int (bK ns (at0 / 32))) := by
  rw [List.getElem?_map, dD hm]
  rfl
 have ej : (at0 : Int) / 32 = ((at0 / 32 : Nat) : Int) := by omega
 refine ⟨f, o, fd, rfl, e1, g1, _, rfl, _, _, rfl, rfl, ⟨by decide, by decide⟩, e1, sn, bl, ss, _, at0 / 32, _, congrArg (fun v => [v]) (congrArg V.int ej), hA.asks, hls, hg, ?_⟩
 refine ⟨_, rfl, _, _, rfl, rfl, (by show (0 : Int) < 32; decide), _, _, rfl, (show 0 ≤ (at0 : Int) % 32 from by omega), ?_⟩
 rw [show bit (bK ns (at0 / 32)) ((at0 : Int) % 32).toNat = b from by rw [show ((at0 : Int) % 32).toNat = at0 % 32 from by omega, bit_at hA.bits _ _ (by omega), show 32 * (at0 / 32) + at0 % 32 = at0 from by omega, hb]; rfl]
 exact q _ _ (bU.one ss (i := ((at0 / 32 : Nat) : Int)) (by omega) (by omega)) (aY.refl _)
def FN (K : PySem.W.Frag) : Sp := fun vs H Q _ => ∃ (p : Addr) (ns : List Int) (goal : Int), vs = [.ref p, .int goal] ∧ SqT K H p (ns.map V.int) ∧ 0 < ns.length ∧ ns.length ≤ 4096 ∧
 ∀ lo : Nat, lo < ns.length → (lo = 0 ∨ ∃ x, ns[lo]? = some x ∧ x ≤ goal) → (lo + 1 = ns.length ∨ ∃ x, ns[lo + 1]? = some x ∧ goal < x) → Q (.int (lo : Int)) H
theorem lH (T : Tx K mg a) : bj P w K mg base CX0 1 a.f_last_no_greater a.fd_last_no_greater ["numbers", "goal"] (FN K) := by
 refine T.D_last_no_greater.F.ok bM (fun vs H Q E h => ?_) (fun cdv A outer s H vs Q E hr h => ?_)
 ·obtain ⟨p, ns, goal, rfl, _⟩ := h
  rfl
 obtain ⟨p, ns, goal, rfl, hS, h0, hl, q⟩ := h
 refine ⟨_, (aj (aF (i := 2) bM.nd rfl (Or.inl rfl) ao)
  (aj (aF (i := 3) bM.nd rfl (Or.inl rfl) (aU bc rfl T.b_len Tw.cG (aa (pv 0) ak)))
  (aj (jl PassesOwn.never (aL gU (az bx (pv 3) (pv 2)) ao (aN _)) (aj (aF (i := 4) bM.nd rfl (Or.inl rfl) (az cg (az aV (pv 2) (pv 3)) ao))
  (aq (aW (aL di (aQ bC (pv 0) (pv 4) (fun _ _ => rfl)) (pv 1) (aN _)) (aq (aF (i := 2) bM.nd rfl (Or.inl rfl) (pv 4))) (aq (aF (i := 3) bM.nd rfl (Or.inl rfl) (pv 4)))))))
  (aq (aB (pv 2)))))), ?_⟩
 refine ⟨_, rfl, p, _, rfl, .inr hS, ?_⟩
 refine ⟨fun m σ H' => ∃ (lo hi : Nat) (k : Option V), σ = [some (.ref p), some (.int goal), some (.int (lo : Int)), some (.int (hi : Int)), k] ∧ H' = H ∧ m = hi - lo ∧ lo < hi ∧ hi ≤ ns.length ∧ (lo = 0 ∨ ∃ x, ns[lo]? = some x ∧ x ≤ goal) ∧ (hi = ns.length ∨ ∃ x, ns[hi]? = some x ∧ goal < x), ⟨_, 0, ns.length, none, ?_, rfl, rfl, h0, Nat.le_refl _, .inl rfl, .inl rfl⟩, ?_⟩
 ·rw [List.length_map]
  rfl
 rintro m σ H' ⟨lo, hi, k, rfl, rfl, rfl, hlt, hle, h1, h2⟩
 refine ⟨_, rfl, _, rfl, _, _, rfl, rfl, _, _, rfl, rfl, _, rfl, aP (fun c => ?_) fun c => ?_⟩
 ·have c : (1 : Int) < (hi : Int) - (lo : Int) := of_decide_eq_true c
  refine ⟨_, fun σ' H2 z => z, ?_⟩
  have em : ((lo : Int) + (hi : Int)) / 2 = (((lo + hi) / 2 : Nat) : Int) := by omega
  have hm : (lo + hi) / 2 < ns.length := by omega
  have hg : ns[(lo + hi) / 2]? = some ns[(lo + hi) / 2] := List.getElem?_eq_getElem hm
  have hat : atI (ns.map V.int) (((lo : Int) + (hi : Int)) / 2) = some (.int ns[(lo + hi) / 2]) := by
   rw [em]
   exact jP hg
  refine ⟨_, rfl, _, rfl, _, _, rfl, rfl, _, _, rfl, rfl, ⟨by decide, by decide⟩, ?_⟩
  refine ⟨_, rfl, _, rfl, p, _, _, _, rfl, rfl, hS, hat, _, rfl, _, _, rfl, rfl, _, rfl, aP (fun d => ?_) fun d => ?_⟩
  ·have d := of_decide_eq_true d
   refine ⟨_, rfl, hi - (lo + hi) / 2, by omega, (lo + hi) / 2, hi, some (.int (((lo : Int) + (hi : Int)) / 2)), ?_, rfl, rfl, by omega, hle, .inr ⟨_, hg, d⟩, h2⟩
   rw [← em]
   rfl
  ·have d : ¬ ns[(lo + hi) / 2] ≤ goal := fun z => d (decide_eq_true z)
   refine ⟨_, rfl, (lo + hi) / 2 - lo, by omega, lo, (lo + hi) / 2, some (.int (((lo : Int) + (hi : Int)) / 2)), ?_, rfl, rfl, by omega, by omega, h1, .inr ⟨_, hg, by omega⟩⟩
   rw [← em]
   rfl
 ·have c : ¬ (1 : Int) < (hi : Int) - (lo : Int) := fun z => c (decide_eq_true z)
  have e : hi = lo + 1 := by omega
  subst e
  exact ⟨_, rfl, q lo (by omega) h1 h2⟩
def uq : Sp := fun vs H Q E => ∃ nth many : Int, vs = [.int nth, .int many] ∧ 0 ≤ nth ∧ nth < many ∧ Q .non H
theorem uh (T : Tx K mg a) : bj P w K mg base CX0 1 a.f_check_nth a.fd_check_nth ["nth", "many"] uq := by
 refine T.D_check_nth.F.ok u6 (fun vs H Q E h => ?_) (fun cdv A outer s H vs Q E hr h => ?_)
 ·obtain ⟨p, m, rfl, _⟩ := h
  rfl
 obtain ⟨nth, mny, rfl, h0, h1, q⟩ := h
 refine ⟨_, (aq (aW (PW.pt (pq (aL jg (pv 0) ao (aN _)) (lA (aL tZ (pv 0) (pv 1) (aN _))))) (aq cO) aM)), ?_⟩
 refine ⟨_, rfl, _, _, rfl, rfl, _, rfl, aP (fun c => ?_) fun c => ?_⟩
 ·have c := of_decide_eq_true c
  omega
 refine ⟨_, rfl, _, rfl, _, _, rfl, rfl, _, rfl, aP (fun c2 => ?_) fun c2 => ?_⟩
 ·have c2 := of_decide_eq_true c2
  omega
 exact q
def uT : Sp := fun vs H Q E => ∃ (t f sn bl ah : Addr) (ns ss : List Int) (rest : List V) (nth : Int), vs = [.ref t, .ref f, .int nth] ∧ Ask H t f sn bl ah ns ss rest ∧ ss.length < 1000 ∧ 0 ≤ nth ∧ nth < ns.sum ∧ ∀ (H' : Hp) (p : Nat) (ss' : List Int), ns[p]? = some 1 → (ns.take p).sum = nth → bU (many ns.length) 1 ss ss' → aY (upd H sn (.lst (ss'.map V.int))) H' → Q (.int (p : Int)) H'
theorem uA (T : Tx K mg a) : bj P w K mg base CX0 4 a.f_one_place a.fd_one_place ["tables", "look", "nth"] uT := by
 refine T.D_one_place.F.ok jd (fun vs H Q E h => ?_) (fun cdv A outer s H vs Q E hr h => ?_)
 ·obtain ⟨t, f, sn, bl, ah, ns, ss, rest, nth, rfl, _⟩ := h
  rfl
 obtain ⟨t, f, sn, bl, ah, ns, ss, rest, nth, rfl, R, hls, p0, p1, q⟩ := h
 have ht := R.tab.tup
 have hah := R.tab.ahs
 have hb := R.bits
 have hl := R.len
 have hM : many ns.length ≤ 128 := by
  unfold many
  omega
 have hall : ns.take (32 * many ns.length) = ns := List.take_of_length_le (by unfold many; omega)
 have hla : atI ((ahd ns (many ns.length)).map V.int) (-1) = some (.int ns.sum) := by
  rw [By, List.map_append, hall]
  exact mU _ _
 refine ⟨_, (aj (aF (i := 3) jd.nd rfl (Or.inl rfl) (aQ bC (pv 0) ao (fun _ _ => rfl)))
  (aj (bz (aD T.D_check_nth (uh T) (by decide) hr aK rfl (aa (pv 2) (aa (aQ bC (pv 3) (tQ m9 ao) (fun _ _ => rfl)) ak))))
  (aj (aF (i := 4) jd.nd rfl (Or.inl rfl) (aD T.D_last_no_greater (lH T) (by decide) hr aK rfl (aa (pv 3) (aa (pv 2) ak))))
  (aq (aB (az aV (az b8 (bO (v := .int 32) rfl T.c_BLOCK_BITS ⟨_, rfl⟩) (pv 4)) (aD T.D_one_in (Ag T) (by decide) hr aK rfl (aa (dh ((bZ T).mono (by decide)) hr (i := 1) rfl (aa (pv 4) ak)) (aa (az bx (pv 2) (aQ bC (pv 3) (pv 4) (fun _ _ => rfl))) ak))))))))), ?_⟩
 refine ⟨_, rfl, t, _, _, _, rfl, rfl, SqT.of ht, pX _ _ _ R.tab.few, ?_⟩
 refine ⟨_, rfl, _, rfl, _, rfl, ah, _, _, _, rfl, rfl, SqT.of hah, hla, _, _, rfl, p0, p1, ?_⟩
 refine ⟨_, rfl, _, rfl, ah, _, _, rfl, SqT.of hah, (by rw [gn]; omega), (by rw [gn]; omega), fun lo hlo c1 c2 => ?_⟩
 rw [gn] at hlo c2
 have hlo2 : lo < many ns.length := by
  rcases c2 with c2 | ⟨x, e, _⟩
  ·have e : lo = many ns.length := by omega
   rcases c1 with c1 | ⟨x, e2, c1⟩
   ·have e3 : many ns.length = 0 := by omega
    have : ns.sum = 0 := by
     rw [← hall, e3]
     rfl
    omega
   ·rw [lV (by omega)] at e2
    cases e2
    rw [e, hall] at c1
    omega
  ·have := (List.getElem?_eq_some_iff.mp e).1
   rw [gn] at this
   omega
 have d1 : (ns.take (32 * lo)).sum ≤ nth := by
  rcases c1 with c1 | ⟨x, e2, c1⟩
  ·subst c1
   exact p0
  ·rw [lV (by omega)] at e2
   cases e2
   exact c1
 have d2 : nth < (ns.take (32 * lo + 32)).sum := by
  rcases c2 with c2 | ⟨x, e2, c2⟩
  ·omega
  ·rw [lV (by omega)] at e2
   cases e2
   exact c2
 have hat : atI ((ahd ns (many ns.length)).map V.int) (lo : Int) = some (.int (ns.take (32 * lo)).sum) := jP (lV (by omega))
 have sb := jY hb lo 32 (by omega)
 obtain ⟨k0, hk0, hk1, hk2⟩ := CJ (bK ns lo) (nth - (ns.take (32 * lo)).sum) (by omega) 32 (by omega)
 have hlk : ((cV ns).map V.int)[lo]? = some (.int (bK ns lo)) := by
  rw [List.getElem?_map, dD hlo2]
  rfl
 obtain ⟨o, fd, e1, g1⟩ := R.asks.look.fn
 have nA : ah ≠ sn := fun z => by rw [z, R.asks.seen] at hah; cases hah
 refine ⟨_, rfl, _, _, rfl, rfl, .inl ⟨by decide, by decide⟩, f, o, fd, rfl, e1, g1, _, rfl, e1, sn, bl, ss, _, lo, _, rfl, R.asks, hls, hlk, ?_⟩
 refine ⟨_, rfl, _, rfl, _, rfl, ah, _, _, _, rfl, rfl, SqT.of (by rw [aH nA]; exact hah), hat, _, _, rfl, rfl, ?_⟩
 refine ⟨_, _, rfl, fun H' sm k hk b1 o1 => ?_, fun H' sm no => absurd ⟨hk1, hk2⟩ (no k0 hk0)⟩
 refine ⟨_, _, rfl, rfl, ?_⟩
 have b1 : bit (bK ns lo) k = 1 := b1
 have o1 : ones (bK ns lo) k = nth - (ns.take (32 * lo)).sum := o1
 have hp : ns[32 * lo + k]? = some 1 := by
  have := bit_at hb lo k hk
  rw [b1] at this
  cases e : ns[32 * lo + k]? with
  | none => rw [e] at this; cases this
  | some x =>
   rw [e] at this
   have this : 1 = x := this
   rw [this]
 have hs : (ns.take (32 * lo + k)).sum = nth := by
  have := jY hb lo k (by omega)
  omega
 have := q H' (32 * lo + k) _ hp hs (bU.one ss (by omega) (by omega)) sm
 rw [show ((32 * lo + k : Nat) : Int) = 32 * (lo : Int) + (k : Int) from by omega] at this
 exact this
theorem jG.out {H : Hp} {f b : Addr} {c : rz} {cs : List Addr} {fvs : List V} {xs : List V} (h : jG H f c cs fvs) (e : H b = some (.tup xs)) : b ∉ cs := fun z => by
 obtain ⟨i, hi⟩ := List.getElem?_of_mem z
 obtain ⟨co, v, u, _, e2, _⟩ := h.cells i b hi
 rw [e] at e2
 cases e2
def Quiet (H : Hp) (f nd : Addr) (xs : List V) : Prop := (∃ cs, jG H f bh cs [.ref nd]) ∧ H nd = some (.tup xs)
theorem Quiet.fn {H : Hp} {f nd : Addr} {xs : List V} (h : Quiet H f nd xs) : ∃ o fd, H f = some (aO f o) ∧ o.data = .func fd := by
 obtain ⟨⟨cs, ca⟩, _⟩ := h
 obtain ⟨cd, pm, ctv, oc, vs, t, h1, _⟩ := ca.ex
 exact ⟨_, _, h1, rfl⟩
theorem Quiet.same {H H' : Hp} {f nd : Addr} {xs : List V} (h : Quiet H f nd xs) (s : aY H H') : Quiet H' f nd xs := by
 obtain ⟨⟨cs, ca⟩, h2⟩ := h
 exact ⟨⟨cs, ca.same fun b o e => s _ _ e⟩, s _ _ h2⟩
def oK : Addr → Sp := fun f vs H Q _ => ∃ (nd : Addr) (xs : List V) (n : Nat) (x : V), vs = [.int (n : Int)] ∧ Quiet H f nd xs ∧ xs[n]? = some x ∧ Q x H
theorem c7 (T : Tx K mg a) : o4 P w K mg base 1 oK := by
 refine Fj oV (fun _ _ _ _ us hl => match us, hl with | [_], _ => rfl) fun f vs H Q h => ?_
 obtain ⟨nd, xs, n, x, rfl, ⟨⟨cs, ca⟩, h2⟩, hg, q⟩ := h
 have o2 := jG.out ca h2
 refine ⟨rfl, cs, [.ref nd], ca, fun cd A outer s hr => ⟨_, (aQ bC (pv 1) (pv 0) (fun _ _ => rfl)), ?_⟩⟩
 have g2 : hide H cs nd = some (.tup xs) := by rw [bR o2]; exact h2
 refine ⟨_, rfl, _, rfl, nd, _, _, _, rfl, rfl, SqT.of g2, cH hg, ?_⟩
 show Q x (over H cs (hide H cs))
 rw [sU]
 exact q
def uF (Pt : Addr) : Sp := fun vs H Q _ => ∃ (t nd : Addr) (x y : V) (xs : List V), vs = [.ref t] ∧ H t = some (.tup [x, y, .ref nd]) ∧ H nd = some (.tup xs) ∧ TabAt H Pt (gh bH) bh.qual ∧
 ∀ f H2, H f = none → yL Pt H H2 → TabAt H2 Pt (gh bH) bh.qual → Quiet H2 f nd xs → Q (.ref f) H2
theorem iz (T : Tx K mg a) (B : Bs mg base a) : bj P w K mg base CX0 1 a.f_heap_look a.fd_heap_look ["tables"] (uF a.tP_heap_look) := by
 refine Fun.makerL1 (T := bh) (pos := gh bH) T.D_heap_look.F lK uX B.bm T.w_heap_look B.C_heap_look (fun vs H Q E h => ?_) rfl (fun cdv A outer s H vs Q E hr h => ?_)
 ·obtain ⟨t, nd, x, y, xs, rfl, _⟩ := h
  rfl
 obtain ⟨t, nd, x, y, xs, rfl, ht, hn, hT, q⟩ := h
 refine ⟨_, (aF (i := 1) lK.nd rfl (Or.inr rfl) (aQ bC (pv 0) ao (fun _ _ => rfl))), ?_⟩
 refine ⟨_, rfl, t, _, _, _, rfl, rfl, SqT.of ht, rfl, ?_⟩
 refine ⟨hT, [.ref nd], fun j m e => ?_, rfl, fun fi cs H2 n1 n2 n3 n4 n5 => q fi H2 n1 n3 n4 ⟨⟨cs, n5⟩, n3 _ _ hn (TabAt.ne hT hn nofun)⟩⟩
 match j, e with
 | 0, e => cases e; exact ⟨_, rfl, rfl⟩
 | j + 1, e => simp at e
def wO : Sp := fun vs H Q _ => ∃ (f nd : Addr) (xs : List V) (ns : List Int) (S st sp : Nat), vs = [.int (ns.length : Int), .ref f, .int (st : Int), .int (sp : Int)] ∧ Quiet H f nd xs ∧ iu ns.length S ∧ fG ns S 1 xs ∧ ns.length ≤ 4096 ∧ st < sp ∧ sp ≤ ns.length ∧
 ∀ (M : Int) (H' : Hp), mQ ns st sp M → aY H H' → Q (.int M) H'
theorem v9 (T : Tx K mg a) : bj P w K mg base CX0 3 a.f_least_of a.fd_least_of ["many", "look", "start", "stop"] wO := by
 refine T.D_least_of.F.ok vo (fun vs H Q E h => ?_) (fun cdv A outer s H vs Q E hr h => ?_)
 ·obtain ⟨f, nd, xs, ns, S, st, sp, rfl, _⟩ := h
  rfl
 obtain ⟨f, nd, xs, ns, S, st, sp, rfl, hA, hSz, hv, hl, h1, h2, q⟩ := h
 refine ⟨_, (aq (aB (Cr rfl rfl T.b_min (aa (mz rfl (dg.one (j := 1) rfl (Or.inl rfl) rfl rfl (Or.inl rfl)) (dw (aD T.D_cover (qm T) (by decide) hr aK rfl (aa (pv 0) (aa (pv 2) (aa (pv 3) ak))))) (fun _ _ _ _ => jR) (fun _ _ _ _ => (dh ((c7 T).mono (by decide)) hr (i := 1) rfl (aa (pv 0) ak)))) ak) bW Tw.jE))), ?_⟩
 have hS0 := hSz.pos
 have hS4 := hSz.le hl
 obtain ⟨h, eS, hlS, hj⟩ := id hSz
 have ch := jK (st := st) ⟨h, eS⟩ (Nat.le_of_lt h1) (show sp ≤ S by omega) hS0
 obtain ⟨_, v1, v2, v3⟩ := fQ hv hlS h2 ch (Nat.le_refl _)
 refine ⟨_, rfl, _, rfl, _, rfl, ns.length, st, sp, rfl, Nat.le_of_lt h1, h2, hl, fun S' r H1 hS' hr0 sm1 hr1 => ⟨r, rfl, ⟨_, SqL.of hr1⟩, ?_⟩⟩
 have := iu.uniq hS' hSz
 subst this
 have hfew := z7 (st := st) eS (Nat.le_of_lt h1) (show sp ≤ S' by omega)
 have hh : h ≤ 12 := by
  rcases Nat.lt_or_ge 12 h with z | z
  ·have := hj 12 z
   omega
  ·exact z
 have hA1 := hA.same sm1
 have en : nats (cover S' st sp) = ((cover S' st sp).map fun n : Nat => (n : Int)).map V.int := by
  unfold nats
  rw [List.map_map]
  rfl
 rw [en] at hr1
 refine zy (fun z => iy xs z.toNat) (SqL.of hr1) (by rw [List.length_map, sizeLine_eq]; omega) (fun _ _ _ q => q) (fun z H' Q hz sm q => ?_) fun D hD => ?_
 ·obtain ⟨n, hn, rfl⟩ := List.mem_map.mp hz
  have hA2 := hA1.same sm
  obtain ⟨o, fd, e1, g1⟩ := hA2.fn
  exact ⟨f, o, fd, rfl, e1, g1, _, rfl, e1, nd, xs, n, _, rfl, hA2, (v1 n hn).2.2, q⟩
 have ev : (((cover S' st sp).map fun n : Nat => (n : Int)).map fun z => iy xs z.toNat) = (cover S' st sp).map (iy xs) := by
  rw [List.map_map]
  refine List.map_congr_left fun n _ => ?_
  show iy xs ((n : Int).toNat) = _
  rw [Int.toNat_natCast]
 rw [ev]
 refine ⟨D, (cover S' st sp).map (iy xs), rfl, SqL.of au, .inr ⟨?_, fun M hM => q _ _ (zu hv hlS h2 ch (Nat.le_refl _) hM) (sm1.trans (aA hD _))⟩⟩
 have hg : ns[st]? = some ns[st] := List.getElem?_eq_getElem (by omega)
 obtain ⟨v, hv1, _⟩ := v3 st ns[st] (Nat.le_refl _) h1 hg
 exact List.length_pos_of_mem hv1
def yu : Sp := fun vs H Q _ => ∃ (f nd : Addr) (xs : List V) (ns : List Int) (S s n a0 e : Nat) (g : Int), vs = [.int (S : Int), .ref f, .int (n : Int), .int g, .int (s : Int)] ∧ Quiet H f nd xs ∧ fG ns S 1 xs ∧ ns.length ≤ S ∧ s ≤ 1 ∧ n * 2 ^ e = S + a0 ∧ a0 + 2 ^ e ≤ ns.length ∧ 1 ≤ n ∧ iy xs n ≤ g ∧
 ∀ i : Nat, Hit ns s a0 (a0 + 2 ^ e) g i → Q (.int (i : Int)) H
theorem gZ (T : Tx K mg a) : bj P w K mg base CX0 2 a.f_place_beneath a.fd_place_beneath ["size", "look", "node", "goal", "side"] yu := by
 refine T.D_place_beneath.F.ok cY (fun vs H Q E h => ?_) (fun cdv A outer s H vs Q E hr h => ?_)
 ·obtain ⟨f, nd, xs, ns, S, s, n, a0, e, g, rfl, _⟩ := h
  rfl
 obtain ⟨f, nd, xs, ns, S, sd, n, a0, e, g, rfl, hA, hv, hlS, hs, hn, ha, h1, hg, q⟩ := h
 refine ⟨_, (aj (aF (i := 5) cY.nd rfl (Or.inl rfl) (pv 2))
  (aj (jl PassesOwn.never (aL jg (pv 5) (pv 0) (aN _)) (aj (aF (i := 5) cY.nd rfl (Or.inl rfl) (az aV (az b8 ao (pv 5)) (pv 4)))
  (aq (aW (aL gU (dh ((c7 T).mono (by decide)) hr (i := 1) rfl (aa (pv 5) ak)) (pv 3) (aN _)) (aq (aF (i := 5) cY.nd rfl (Or.inl rfl) (az bx (az aV (pv 5) ao) (az b8 ao (pv 4))))) aM))))
  (aq (aB (az bx (pv 5) (pv 0)))))), ?_⟩
 refine ⟨_, rfl, ?_⟩
 refine ⟨fun m σ H' => ∃ (k e' b : Nat), σ = [some (.int (S : Int)), some (.ref f), some (.int (n : Int)), some (.int g), some (.int (sd : Int)), some (.int (k : Int))] ∧ m = e' ∧ rZ ns xs S sd a0 (a0 + 2 ^ e) g e' k b ∧ H' = H,
  ⟨_, n, e, a0, rfl, rfl, rZ.start hn h1 hg, rfl⟩, ?_⟩
 rintro e' σ H' ⟨k, _, b, rfl, rfl, hd, rfl⟩
 refine ⟨_, rfl, _, rfl, _, _, rfl, rfl, _, rfl, aP (fun c => ?_) fun c => ?_⟩
 ·have c : (k : Int) < (S : Int) := of_decide_eq_true c
  rcases e' with _ | e'
  ·have := (hd.hit hv hlS ha hs).1
   omega
  obtain ⟨v, xv, km, kb, d1, d2⟩ := hd.step hv hlS ha hs
  refine ⟨_, fun σ' H2 z => z, ?_⟩
  refine ⟨_, rfl, _, _, rfl, rfl, .inl ⟨by decide, by decide⟩, _, rfl, _, _, rfl, rfl, ?_⟩
  obtain ⟨o, fd, e1, g1⟩ := hA.fn
  have ek : (2 : Int) * (k : Int) + (sd : Int) = ((2 * k + sd : Nat) : Int) := by omega
  have hone := hd.one
  refine ⟨f, o, fd, rfl, e1, g1, _, rfl, e1, nd, xs, 2 * k + sd, _, ?_, hA, xv, ?_⟩
  ·exact congrArg (fun v => [v]) (congrArg V.int ek)
  refine ⟨_, rfl, _, _, rfl, rfl, _, rfl, aP (fun z => ?_) fun z => ?_⟩
  ·have z : g < v := of_decide_eq_true z
   obtain ⟨b', d'⟩ := d2 z
   refine ⟨_, rfl, _, _, rfl, rfl, _, rfl, _, _, rfl, rfl, .inl ⟨by decide, by decide⟩, _, _, rfl, rfl, e', by omega, 2 * k + 1 - sd, e', b', ?_, rfl, d', rfl⟩
   rw [show ((2 * k + 1 - sd : Nat) : Int) = 2 * (k : Int) + (sd : Int) + 1 - 2 * (sd : Int) from by omega]
   rfl
  ·have z : ¬ g < v := fun y => z (decide_eq_true y)
   obtain ⟨b', d'⟩ := d1 (by omega)
   refine ⟨e', by omega, 2 * k + sd, e', b', ?_, rfl, d', rfl⟩
   rw [← ek]
   rfl
 ·have c : ¬ (k : Int) < (S : Int) := fun y => c (decide_eq_true y)
  rcases e' with _ | e'
  ·obtain ⟨ek, hh⟩ := hd.hit hv hlS ha hs
   refine ⟨_, rfl, _, rfl, _, _, rfl, rfl, ?_⟩
   have := q b hh
   rw [show (b : Int) = (k : Int) - (S : Int) from by omega] at this
   exact this
  ·obtain ⟨v, xv, km, _⟩ := hd.step hv hlS ha hs
   omega
def Bu : Sp := fun vs H Q _ => ∃ (f nd : Addr) (xs : List V) (ns : List Int) (S st : Nat) (g : Int), vs = [.int (ns.length : Int), .ref f, .int (st : Int), .int g] ∧ Quiet H f nd xs ∧ iu ns.length S ∧ fG ns S 1 xs ∧ ns.length ≤ 4096 ∧ st ≤ ns.length ∧
 ∀ (x : V) (H' : Hp), aY H H' → ((x = .non ∧ ∀ j c, st ≤ j → ns[j]? = some c → g < c) ∨ ∃ i : Nat, x = .int (i : Int) ∧ Hit ns 0 st ns.length g i) → Q x H'
theorem nJ (T : Tx K mg a) : bj P w K mg base CX0 3 a.f_first_at_most a.fd_first_at_most ["many", "look", "start", "goal"] Bu := by
 refine T.D_first_at_most.F.ok ik (fun vs H Q E h => ?_) (fun cdv A outer s H vs Q E hr h => ?_)
 ·obtain ⟨f, nd, xs, ns, S, st, g, rfl, _⟩ := h
  rfl
 obtain ⟨f, nd, xs, ns, S, st, g, rfl, hA, hSz, hv, hl, h1, q⟩ := h
 refine ⟨_, (aj (cB PassesOwn.never rfl (dw (aD T.D_cover (qm T) (by decide) hr aK rfl (aa (pv 0) (aa (pv 2) (aa (pv 0) ak))))) (bw (i := 4) ik.nd rfl (Or.inl rfl)) (aq (aW (aL di (dh ((c7 T).mono (by decide)) hr (i := 1) rfl (aa (pv 4) ak)) (pv 3) (aN _)) (aq (aB (aD T.D_place_beneath (gZ T) (by decide) hr aK rfl (aa (aD T.D_size_of (iQ T) (by decide) hr aK rfl (aa (pv 0) ak)) (aa (pv 1) (aa (pv 4) (aa (pv 3) (aa ao ak)))))))) aM)))
  (aq (aB bW))), ?_⟩
 have hS0 := hSz.pos
 obtain ⟨h, eS, hlS, hj⟩ := id hSz
 refine ⟨_, rfl, _, rfl, _, rfl, ns.length, st, ns.length, rfl, h1, Nat.le_refl _, hl, fun S' r H1 hS' hr0 sm1 hr1 => ?_⟩
 have := iu.uniq hS' hSz
 subst this
 have ch := jK (st := st) ⟨h, eS⟩ h1 hlS hS0
 obtain ⟨_, v1, _, _⟩ := fQ hv hlS (Nat.le_refl _) ch (Nat.le_refl _)
 have hA1 := hA.same sm1
 refine ⟨r, rfl, ⟨_, SqL.of hr1⟩, ?_⟩
 refine dG (xs := nats (cover S' st ns.length)) (fun i σ H' => (∃ k4, σ = [some (.int (ns.length : Int)), some (.ref f), some (.int (st : Int)), some (.int g), k4]) ∧ H' = H1 ∧ ∃ (b : Nat), Chain S' st ns.length ((cover S' st ns.length).drop i) (S' + b) (S' + ns.length) ∧ st ≤ b ∧ ∀ j c, st ≤ j → j < b → ns[j]? = some c → g < c) ⟨⟨none, rfl⟩, rfl, st, ch, Nat.le_refl _, fun j c j1 j2 => by omega⟩ ?_ ?_ ?_
 ·rintro i σ H' _ ⟨_, rfl, _⟩
  exact SqL.of hr1
 ·rintro i x σ H' hx ⟨⟨k4, rfl⟩, rfl, b, chi, hb, hlow⟩
  unfold nats at hx
  rw [List.getElem?_map] at hx
  obtain ⟨n, hn, rfl⟩ : ∃ n, (cover S' st ns.length)[i]? = some n ∧ x = .int (n : Int) := by
   cases e : (cover S' st ns.length)[i]? with
   | none => rw [e] at hx; cases hx
   | some n => rw [e] at hx; exact ⟨n, rfl, (Option.some.inj hx).symm⟩
  have hi := (List.getElem?_eq_some_iff.mp hn).1
  have hd : (cover S' st ns.length).drop i = n :: (cover S' st ns.length).drop (i + 1) := by
   rw [List.drop_eq_getElem_cons hi]
   congr 1
   exact (List.getElem?_eq_some_iff.mp hn).2
  rw [hd] at chi
  obtain ⟨e, ex, ⟨n1, n2, n3, n4⟩, chn⟩ := chi
  have hp : 0 < 2 ^ e := Nat.two_pow_pos e
  have e5 : (n + 1) * 2 ^ e = S' + (b + 2 ^ e) := by rw [Nat.succ_mul, ex]; omega
  rw [e5] at chn n3
  obtain ⟨w1, w2, w3⟩ := v1 n (List.mem_of_getElem? hn)
  obtain ⟨M, m1, m2, m3⟩ := hv.least hlS e n b ex (by omega) n1
  have ev := fB m1
  obtain ⟨o, fd, e1, g1⟩ := hA1.fn
  refine ⟨f, o, fd, rfl, e1, g1, _, rfl, e1, nd, xs, n, _, rfl, hA1, w3, ?_⟩
  refine ⟨_, rfl, _, _, rfl, rfl, _, rfl, aP (fun z => ?_) fun z => ?_⟩
  ·have z : iy xs n ≤ g := of_decide_eq_true z
   refine ⟨_, rfl, ns.length, rfl, by omega, fun S2 hS2 => ?_⟩
   have := iu.uniq hS2 hSz
   subst this
   refine ⟨_, rfl, _, rfl, _, rfl, f, nd, xs, ns, S2, 0, n, b, e, g, rfl, hA1, hv, hlS, by decide, ex, by omega, n1, z, fun p hh4 => ?_⟩
   refine q _ _ sm1 (.inr ⟨p, rfl, ?_⟩)
   obtain ⟨p1, p2, p3, p4⟩ := hh4
   refine ⟨by omega, by omega, p3, fun j c j1 j2 j3 ec => ?_⟩
   rw [if_pos rfl] at j3
   rcases Nat.lt_or_ge j b with y | y
   ·exact hlow j c j1 y ec
   ·exact p4 j c y (by omega) (by rw [if_pos rfl]; exact j3) ec
  ·have z : ¬ iy xs n ≤ g := fun y => z (decide_eq_true y)
   refine ⟨⟨_, rfl⟩, rfl, b + 2 ^ e, chn, by omega, fun j c j1 j2 ec => ?_⟩
   rcases Nat.lt_or_ge j b with y | y
   ·exact hlow j c j1 y ec
   ·have := m3 j c y j2 ec
    omega
 ·rintro σ H' ⟨⟨k4, rfl⟩, rfl, b, chi, hb, hlow⟩
  have e0 : (nats (cover S' st ns.length)).length = (cover S' st ns.length).length := List.length_map ..
  rw [e0, List.drop_length] at chi
  have chi : S' + b = S' + ns.length := chi
  refine q _ _ sm1 (.inl ⟨rfl, fun j c j1 ec => ?_⟩)
  have := (List.getElem?_eq_some_iff.mp ec).1
  exact hlow j c j1 (by omega) ec
def Dl : Sp := fun vs H Q _ => ∃ (f nd : Addr) (xs : List V) (ns : List Int) (S sp : Nat) (g : Int), vs = [.int (ns.length : Int), .ref f, .int (sp : Int), .int g] ∧ Quiet H f nd xs ∧ iu ns.length S ∧ fG ns S 1 xs ∧ ns.length ≤ 4096 ∧ sp ≤ ns.length ∧
 ∀ (x : V) (H' : Hp), aY H H' → ((x = .non ∧ ∀ j c, j < sp → ns[j]? = some c → g < c) ∨ ∃ i : Nat, x = .int (i : Int) ∧ Hit ns 1 0 sp g i) → Q x H'
theorem pR (T : Tx K mg a) : bj P w K mg base CX0 3 a.f_last_at_most a.fd_last_at_most ["many", "look", "stop", "goal"] Dl := by
 refine T.D_last_at_most.F.ok ji (fun vs H Q E h => ?_) (fun cdv A outer s H vs Q E hr h => ?_)
 ·obtain ⟨f, nd, xs, ns, S, sp, g, rfl, _⟩ := h
  rfl
 obtain ⟨f, nd, xs, ns, S, sp, g, rfl, hA, hSz, hv, hl, h1, q⟩ := h
 refine ⟨_, (aj (cB PassesOwn.never rfl (Az rfl T.b_reversed (aa (aD T.D_cover (qm T) (by decide) hr aK rfl (aa (pv 0) (aa ao (aa (pv 2) ak)))) ak) Tw.eF) (bw (i := 4) ji.nd rfl (Or.inl rfl)) (aq (aW (aL di (dh ((c7 T).mono (by decide)) hr (i := 1) rfl (aa (pv 4) ak)) (pv 3) (aN _)) (aq (aB (aD T.D_place_beneath (gZ T) (by decide) hr aK rfl (aa (aD T.D_size_of (iQ T) (by decide) hr aK rfl (aa (pv 0) ak)) (aa (pv 1) (aa (pv 4) (aa (pv 3) (aa ao ak)))))))) aM)))
  (aq (aB bW))), ?_⟩
 have hS0 := hSz.pos
 obtain ⟨h, eS, hlS, hj⟩ := id hSz
 refine ⟨_, rfl, _, rfl, ns.length, 0, sp, rfl, Nat.zero_le _, h1, hl, fun S' r H1 hS' hr0 sm1 hr1 => ?_⟩
 have := iu.uniq hS' hSz
 subst this
 have ch := jK (st := 0) ⟨h, eS⟩ (Nat.zero_le sp) (by omega) hS0
 obtain ⟨_, v1, _, _⟩ := fQ hv hlS h1 ch (Nat.le_refl _)
 have hA1 := hA.same sm1
 have e0 : (nats (cover S' 0 sp)).length = (cover S' 0 sp).length := List.length_map ..
 refine ⟨r, _, rfl, SqL.of hr1, ?_⟩
 refine zb (xs := nats (cover S' 0 sp)) (fun i σ H' => (∃ k4, σ = [some (.int (ns.length : Int)), some (.ref f), some (.int (sp : Int)), some (.int g), k4]) ∧ H' = H1 ∧ ∃ (b : Nat), Chain S' 0 sp ((cover S' 0 sp).take ((cover S' 0 sp).length - i)) (S' + 0) (S' + b) ∧ b ≤ sp ∧ ∀ j c, b ≤ j → j < sp → ns[j]? = some c → g < c) ⟨⟨none, rfl⟩, rfl, sp, by rw [Nat.sub_zero, List.take_length]; exact ch, Nat.le_refl _, fun j c j1 j2 => by omega⟩ ?_ ?_ ?_
 ·rintro i σ H' _ ⟨_, rfl, _⟩
  exact SqL.of hr1
 ·rintro i x σ H' hi hx ⟨⟨k4, rfl⟩, rfl, b, chi, hb, hlow⟩
  rw [e0] at hi hx
  unfold nats at hx
  rw [List.getElem?_map] at hx
  obtain ⟨n, hn, rfl⟩ : ∃ n, (cover S' 0 sp)[(cover S' 0 sp).length - 1 - i]? = some n ∧ x = .int (n : Int) := by
   cases e : (cover S' 0 sp)[(cover S' 0 sp).length - 1 - i]? with
   | none => rw [e] at hx; cases hx
   | some n => rw [e] at hx; exact ⟨n, rfl, (Option.some.inj hx).symm⟩
  have et : (cover S' 0 sp).take ((cover S' 0 sp).length - i) = (cover S' 0 sp).take ((cover S' 0 sp).length - (i + 1)) ++ [n] := by
   rw [show (cover S' 0 sp).length - i = ((cover S' 0 sp).length - (i + 1)) + 1 from by omega, List.take_add_one, show (cover S' 0 sp).length - (i + 1) = (cover S' 0 sp).length - 1 - i from by omega, hn]
   rfl
  obtain ⟨y, y1, y2⟩ := o9 ((cover S' 0 sp).length - (i + 1)) chi
  have elen : ((cover S' 0 sp).take ((cover S' 0 sp).length - (i + 1))).length = (cover S' 0 sp).length - (i + 1) := by
   rw [List.length_take]
   omega
  rw [et, List.take_append_of_le_length (by rw [elen]; exact Nat.le_refl _), List.take_of_length_le (by rw [elen]; exact Nat.le_refl _)] at y1
  rw [et, List.drop_append_of_le_length (by rw [elen]; exact Nat.le_refl _), List.drop_of_length_le (by rw [elen]; exact Nat.le_refl _), List.nil_append] at y2
  obtain ⟨e, ex, ⟨n1, n2, n3, n4⟩, chn⟩ := y2
  have hy := vA y1
  obtain ⟨a0, rfl⟩ : ∃ a0, y = S' + a0 := ⟨y - S', by omega⟩
  have hp : 0 < 2 ^ e := Nat.two_pow_pos e
  have e5 : (n + 1) * 2 ^ e = S' + (a0 + 2 ^ e) := by rw [Nat.succ_mul, ex]; omega
  have chn : (n + 1) * 2 ^ e = S' + b := chn
  rw [e5] at chn n3
  obtain ⟨w1, w2, w3⟩ := v1 n (List.mem_of_getElem? hn)
  obtain ⟨M, m1, m2, m3⟩ := hv.least hlS e n a0 ex (by omega) n1
  have ev := fB m1
  obtain ⟨o, fd, e1, g1⟩ := hA1.fn
  refine ⟨f, o, fd, rfl, e1, g1, _, rfl, e1, nd, xs, n, _, rfl, hA1, w3, ?_⟩
  refine ⟨_, rfl, _, _, rfl, rfl, _, rfl, aP (fun z => ?_) fun z => ?_⟩
  ·have z : iy xs n ≤ g := of_decide_eq_true z
   refine ⟨_, rfl, ns.length, rfl, by omega, fun S2 hS2 => ?_⟩
   have := iu.uniq hS2 hSz
   subst this
   refine ⟨_, rfl, _, rfl, _, rfl, f, nd, xs, ns, S2, 1, n, a0, e, g, rfl, hA1, hv, hlS, by decide, ex, by omega, n1, z, fun p hh4 => ?_⟩
   refine q _ _ sm1 (.inr ⟨p, rfl, ?_⟩)
   obtain ⟨p1, p2, p3, p4⟩ := hh4
   refine ⟨Nat.zero_le _, by omega, p3, fun j c j1 j2 j3 ec => ?_⟩
   rw [if_neg (by decide)] at j3
   rcases Nat.lt_or_ge j b with y | y
   ·exact p4 j c (by omega) (by omega) (by rw [if_neg (by decide)]; exact j3) ec
   ·exact hlow j c y j2 ec
  ·have z : ¬ iy xs n ≤ g := fun y => z (decide_eq_true y)
   refine ⟨⟨_, rfl⟩, rfl, a0, y1, by omega, fun j c j1 j2 ec => ?_⟩
   rcases Nat.lt_or_ge j b with y | y
   ·have := m3 j c j1 (by omega) ec
    omega
   ·exact hlow j c y j2 ec
 ·rintro σ H' ⟨⟨k4, rfl⟩, rfl, b, chi, hb, hlow⟩
  rw [e0, Nat.sub_self, List.take_zero] at chi
  have chi : S' + 0 = S' + b := chi
  exact q _ _ sm1 (.inl ⟨rfl, fun j c j1 ec => hlow j c (by omega) j1 ec⟩)
structure BP where
 t : Addr
 f : Addr
 sn : Addr
 bl : Addr
 ah : Addr
 nd : Addr
 ns : List Int
 lows : List Int
 S : Nat
 xs : List V
structure Brk (H : Hp) (Ph : Addr) (p : BP) (ss : List Int) : Prop where
 ask : Ask H p.t p.f p.sn p.bl p.ah p.ns ss [.ref p.nd]
 nds : H p.nd = some (.tup p.xs)
 low : uy p.ns p.lows
 sz : iu p.lows.length p.S
 heap : fG p.lows p.S 1 p.xs
 tab : TabAt H Ph (gh bH) bh.qual
structure Did (H H' : Hp) (Ph sn : Addr) (n k : Nat) (ss ss' : List Int) : Prop where
 kp : ∀ b o, H b = some o → b ≠ Ph → b ≠ sn → H' b = some o
 seen : H' sn = some (.lst (ss'.map V.int))
 tab : TabAt H' Ph (gh bH) bh.qual
 wr : bU n k ss ss'
theorem Did.trans {H H1 H2 : Hp} {Ph sn : Addr} {n j k : Nat} {a b c : List Int} (h : Did H H1 Ph sn n j a b) (h' : Did H1 H2 Ph sn n k b c) : Did H H2 Ph sn n (j + k) a c :=
 ⟨fun x o e n1 n2 => h'.kp x o (h.kp x o e n1 n2) n1 n2, h'.seen, h'.tab, h.wr.trans h'.wr⟩
theorem Did.le {H H1 : Hp} {Ph sn : Addr} {n j k : Nat} {a b : List Int} (h : Did H H1 Ph sn n j a b) (hk : j ≤ k) : Did H H1 Ph sn n k a b := ⟨h.kp, h.seen, h.tab, h.wr.le hk⟩
theorem Did.same {H H1 H2 : Hp} {Ph sn : Addr} {n j : Nat} {a b : List Int} (h : Did H H1 Ph sn n j a b) (s : aY H1 H2) : Did H H2 Ph sn n j a b :=
 ⟨fun x o e n1 n2 => s _ _ (h.kp x o e n1 n2), s _ _ h.seen, TabAt.same h.tab s, h.wr⟩
theorem Brk.self {H : Hp} {Ph : Addr} {p : BP} {ss : List Int} (h : Brk H Ph p ss) (n : Nat) : Did H H Ph p.sn n 0 ss ss := ⟨fun _ _ e _ _ => e, h.ask.asks.seen, h.tab, bU.none ss⟩
theorem Brk.look {H H' : Hp} {Ph : Addr} {p : BP} {ss ss' : List Int} (h : Brk H Ph p ss) {n k : Nat} (w : bU n k ss ss') (s : aY (L2.upd H p.sn (.lst (ss'.map V.int))) H') : Did H H' Ph p.sn n k ss ss' :=
 ⟨fun x o e n1 n2 => s _ _ (by rw [aH n2]; exact e), s _ _ au, TabAt.same (TabAt.upd h.tab h.ask.asks.seen) s, w⟩
theorem Brk.did {H H' : Hp} {Ph : Addr} {p : BP} {ss ss' : List Int} {n k : Nat} (h : Brk H Ph p ss) (d : Did H H' Ph p.sn n k ss ss') (hl : ss'.length ≤ 1000) : Brk H' Ph p ss' := by
 have nP : ∀ b o, H b = some o → (∀ ps, o ≠ .tbl ps) → b ≠ Ph := fun b o e n => TabAt.ne h.tab e n
 have nS : ∀ b o, H b = some o → (∀ ps, o ≠ .lst ps) → b ≠ p.sn := fun b o e n z => by
  rw [z, h.ask.asks.seen] at e
  cases e
  exact n _ rfl
 have k1 : ∀ b o, H b = some o → (∀ ps, o ≠ .tbl ps) → (∀ ps, o ≠ .lst ps) → H' b = some o := fun b o e n1 n2 => d.kp b o e (nP b o e n1) (nS b o e n2)
 obtain ⟨cs, ca⟩ := h.ask.asks.look
 exact ⟨⟨⟨k1 _ _ h.ask.tab.tup nofun nofun, k1 _ _ h.ask.tab.ahs nofun nofun, h.ask.tab.few⟩, ⟨⟨cs, ca.same fun b o e => k1 _ _ e nofun nofun⟩, d.seen, d.kp _ _ h.ask.asks.nodes (nP _ _ h.ask.asks.nodes nofun) h.ask.asks.ne.symm, h.ask.asks.ne, hl⟩, h.ask.bits, h.ask.len⟩, k1 _ _ h.nds nofun nofun, h.low, h.sz, h.heap, d.tab⟩
theorem Brk.same {H H' : Hp} {Ph : Addr} {p : BP} {ss : List Int} (h : Brk H Ph p ss) (s : aY H H') : Brk H' Ph p ss := ⟨h.ask.same s, s _ _ h.nds, h.low, h.sz, h.heap, TabAt.same h.tab s⟩
theorem Brk.lenL {H : Hp} {Ph : Addr} {p : BP} {ss : List Int} (h : Brk H Ph p ss) : p.lows.length = many p.ns.length ∧ many p.ns.length ≤ 128 := ⟨h.low.len, by have := h.ask.len; unfold many; omega⟩
theorem Brk.made {H H' : Hp} {Ph : Addr} {p : BP} {ss : List Int} (h : Brk H Ph p ss) (b : yL Ph H H') (t : TabAt H' Ph (gh bH) bh.qual) (n : Nat) : Did H H' Ph p.sn n 0 ss ss :=
 ⟨fun x o e n1 _ => b x o e n1, b _ _ h.ask.asks.seen (TabAt.ne h.tab h.ask.asks.seen nofun), t, bU.none ss⟩
theorem Did.free {H H' : Hp} {Ph sn l : Addr} {n k : Nat} {ss ss' : List Int} (d : Did H H' Ph sn n k ss ss') (h : H' l = none) : H l = none := by
 cases e : H l with
 | none => rfl
 | some o =>
  by_cases z1 : l = Ph
  ·obtain ⟨ps, h1, _⟩ := d.tab
   rw [z1, h1] at h
   cases h
  by_cases z2 : l = sn
  ·rw [z2, d.seen] at h
   cases h
  rw [d.kp l o e z1 z2] at h
  cases h
theorem Did.set {H X : Hp} {Ph sn r : Addr} {n k : Nat} {ss us : List Int} {vs ws : List V} (d : Did H X Ph sn n k ss us) (hn : H r = none) (hx : X r = some (.lst vs)) (nr : r ≠ sn) : Did H (L2.upd X r (.lst ws)) Ph sn n k ss us :=
 ⟨fun b o e n1 n2 => by rw [aH (aJ e hn)]; exact d.kp b o e n1 n2, by rw [aH nr.symm]; exact d.seen, TabAt.upd d.tab hx, d.wr⟩
def pN : Sp := fun vs H Q _ => ∃ (j at0 : Nat), vs = [.int (j : Int), .int (at0 : Int)] ∧ Q (.int ((at0 - 32 * j : Nat) : Int)) H
theorem jh (T : Tx K mg a) : bj P w K mg base CX0 1 a.f_start_within a.fd_start_within ["number", "at"] pN := by
 refine T.D_start_within.F.ok pH (fun vs H Q E h => ?_) (fun cdv A outer s H vs Q E hr h => ?_)
 ·obtain ⟨j, at0, rfl, _⟩ := h
  rfl
 obtain ⟨j, at0, rfl, q⟩ := h
 refine ⟨_, (aq (aB (aU (t8 rfl) rfl T.b_max Tw.Bx (aa (az bx (pv 1) (az b8 (bO (v := .int 32) rfl T.c_BLOCK_BITS ⟨_, rfl⟩) (pv 0))) (aa ao ak))))), ?_⟩
 refine ⟨_, rfl, _, rfl, _, _, rfl, rfl, .inl ⟨by decide, by decide⟩, _, _, rfl, rfl, _, _, rfl, ?_⟩
 have e : (if (at0 : Int) - 32 * (j : Int) < 0 then (0 : Int) else (at0 : Int) - 32 * (j : Int)) = ((at0 - 32 * j : Nat) : Int) := by
  split <;> omega
 rw [← e] at q
 exact q
def qt : Sp := fun vs H Q _ => ∃ (t ah : Addr) (ns : List Int) (rest : List V), vs = [.ref t] ∧ Tab H t ah ns rest ∧ Q (.int (many ns.length : Nat)) H
theorem fZ (T : Tx K mg a) : bj P w K mg base CX0 1 a.f_block_count a.fd_block_count ["tables"] qt := by
 refine T.D_block_count.F.ok qd (fun vs H Q E h => ?_) (fun cdv A outer s H vs Q E hr h => ?_)
 ·obtain ⟨t, ah, ns, rest, rfl, _⟩ := h
  rfl
 obtain ⟨t, ah, ns, rest, rfl, hT, q⟩ := h
 refine ⟨_, (aq (aB (az bx (aU bc rfl T.b_len Tw.cG (aa (aQ bC (pv 0) ao (fun _ _ => rfl)) ak)) ao))), ?_⟩
 refine ⟨_, rfl, t, _, _, _, rfl, rfl, SqT.of hT.tup, pX _ _ _ hT.few, ah, _, rfl, .inr (SqT.of hT.ahs), _, _, rfl, rfl, ?_⟩
 have e : (((ahd ns (many ns.length)).map V.int).length : Int) - 1 = ((many ns.length : Nat) : Int) := by
  rw [List.length_map, gn]
  omega
 rw [← e] at q
 exact q
def pP : Sp := fun vs H Q _ => ∃ (j : Nat) (x : V), vs = [.int (j : Int), x] ∧ ((x = .non ∧ Q .non H) ∨ ∃ k : Nat, x = .int (k : Int) ∧ Q (.int ((32 * j + k : Nat) : Int)) H)
theorem je (T : Tx K mg a) : bj P w K mg base CX0 1 a.f_place_of_bit a.fd_place_of_bit ["number", "within"] pP := by
 refine T.D_place_of_bit.F.ok pO (fun vs H Q E h => ?_) (fun cdv A outer s H vs Q E hr h => ?_)
 ·obtain ⟨j, x, rfl, _⟩ := h
  rfl
 obtain ⟨j, x, rfl, h⟩ := h
 refine ⟨_, (aj (aW (fV (iD (pv 1))) (aq (aB bW)) aM)
  (aq (aB (az aV (az b8 (bO (v := .int 32) rfl T.c_BLOCK_BITS ⟨_, rfl⟩) (pv 0)) (pv 1))))), ?_⟩
 rcases h with ⟨rfl, q⟩ | ⟨k, rfl, q⟩
 ·exact ⟨_, rfl, _, rfl, dN q⟩
 ·refine ⟨_, rfl, _, rfl, cW ⟨_, rfl, _, _, rfl, rfl, .inl ⟨by decide, by decide⟩, _, rfl, _, _, rfl, rfl, ?_⟩⟩
  rw [show ((32 * j + k : Nat) : Int) = 32 * (j : Int) + (k : Int) from by omega] at q
  exact q
def pL : Sp := fun vs H Q _ => ∃ (t f sn bl ah : Addr) (ns ss : List Int) (rest : List V) (j at0 : Nat) (g : Int), vs = [.ref t, .ref f, .int (j : Int), .int (at0 : Int), .int g] ∧ Ask H t f sn bl ah ns ss rest ∧ ss.length < 1000 ∧ 32 * j < ns.length ∧
 ∀ x ss' H', ((x = .non ∧ cC ns (max at0 (32 * j)) (32 * j + wide ns.length j) g) ∨ ∃ k : Nat, x = .int (k : Int) ∧ dz ns (max at0 (32 * j)) (32 * j + wide ns.length j) g k) → bU (many ns.length) 1 ss ss' → aY (upd H sn (.lst (ss'.map V.int))) H' → Q x H'
theorem jf (T : Tx K mg a) : bj P w K mg base CX0 5 a.f_first_within a.fd_first_within ["tables", "look", "number", "at", "goal"] pL := by
 refine T.D_first_within.F.ok fu (fun vs H Q E h => ?_) (fun cdv A outer s H vs Q E hr h => ?_)
 ·obtain ⟨t, f, sn, bl, ah, ns, ss, rest, j, at0, g, rfl, _⟩ := h
  rfl
 obtain ⟨t, f, sn, bl, ah, ns, ss, rest, j, at0, g, rfl, hA, hls, hj, q⟩ := h
 refine ⟨_, (aj (aF (i := 5) fu.nd rfl (Or.inl rfl) (aD T.D_start_within (jh T) (by decide) hr aK rfl (aa (pv 2) (aa (pv 3) ak))))
  (aj (aF (i := 6) fu.nd rfl (Or.inl rfl) (aD T.D_end_within (dZ T) (by decide) hr aK rfl (aa (pv 2) (aa (aQ bC (pv 0) ao (fun _ _ => rfl)) ak))))
  (aq (aB (aD T.D_place_of_bit (je T) (by decide) hr aK rfl (aa (pv 2) (aa (aD T.D_first_low_in (pI T) (by decide) hr aK rfl (aa (dh ((bZ T).mono (by decide)) hr (i := 1) rfl (aa (pv 2) ak)) (aa (pv 5) (aa (pv 6) (aa (az bx (pv 4) (aD T.D_base_of (jc T) (by decide) hr aK rfl (aa (pv 0) (aa (pv 2) ak)))) ak))))) ak))))))), ?_⟩
 obtain ⟨o, fd, e1, g1⟩ := hA.asks.look.fn
 have hm : j < many ns.length := by
  unfold many
  omega
 have hw : wide ns.length j ≤ 32 := by
  unfold wide
  omega
 have hg : ((cV ns).map V.int)[j]? = some (.int (bK ns j)) := by
  rw [List.getElem?_map, dD hm]
  rfl
 refine ⟨_, rfl, _, rfl, j, at0, rfl, ?_⟩
 refine ⟨_, rfl, _, rfl, t, _, _, _, rfl, rfl, SqT.of hA.tab.tup, jT _ _ _ hA.tab.few, j, ns.length, rfl, Nat.le_of_lt hj, ?_⟩
 refine ⟨_, rfl, f, o, fd, rfl, e1, g1, _, rfl, e1, sn, bl, ss, _, j, _, rfl, hA.asks, hls, hg, ?_⟩
 have hA2 := hA.more (tt := ss ++ [(j : Int)]) (by rw [List.length_append, List.length_singleton]; omega)
 refine ⟨_, rfl, _, rfl, _, rfl, _, rfl, _, rfl, t, ah, ns, rest, j, rfl, hA2.tab, Nat.le_of_lt hm, _, _, rfl, rfl, ?_⟩
 have em : 32 * j + (at0 - 32 * j) = max at0 (32 * j) := by omega
 have w := bU.one (n := many ns.length) ss (i := (j : Int)) (by omega) (by omega)
 refine ⟨bK ns j, at0 - 32 * j, wide ns.length j, g - ht ns (32 * j), rfl, hw, fun H' k sm hd hle => ?_, fun H' sm hno => ?_⟩
 ·have := first_within hA.bits hw hd hle
  rw [em] at this
  exact ⟨j, _, rfl, .inr ⟨k, rfl, q _ _ H' (.inr ⟨_, rfl, this⟩) w sm⟩⟩
 ·have := pF hA.bits hw hno
  rw [em] at this
  exact ⟨j, _, rfl, .inl ⟨rfl, q _ _ H' (.inl ⟨rfl, this⟩) w sm⟩⟩
def rR (Ph : Addr) : Sp := fun vs H Q _ => ∃ (p : BP) (ss : List Int) (at0 : Nat) (g : Int), vs = [.ref p.t, .ref p.f, .int (at0 : Int), .int g] ∧ Brk H Ph p ss ∧ ss.length ≤ 990 ∧ at0 ≤ p.ns.length ∧
 ∀ x ss' H', ((x = .non ∧ cC p.ns at0 p.ns.length g) ∨ ∃ k : Nat, x = .int (k : Int) ∧ dz p.ns at0 p.ns.length g k) → Did H H' Ph p.sn (many p.ns.length) 2 ss ss' → Q x H'
theorem rN (T : Tx K mg a) (B : Bs mg base a) : bj P w K mg base CX0 6 a.f_low_behind a.fd_low_behind ["tables", "look", "at", "goal"] (rR a.tP_heap_look) := by
 refine T.D_low_behind.F.ok dW (fun vs H Q E h => ?_) (fun cdv A outer s H vs Q E hr h => ?_)
 ·obtain ⟨p, ss, at0, g, rfl, _⟩ := h
  rfl
 obtain ⟨p, ss, at0, g, rfl, hB, hls, h1, q⟩ := h
 refine ⟨_, (aj (bz (aD T.D_check_place (dH T) (by decide) hr aK rfl (aa (pv 2) (aa (aQ bC (pv 0) ao (fun _ _ => rfl)) ak))))
  (aj (aW (aL bY (pv 2) (aQ bC (pv 0) ao (fun _ _ => rfl)) (aN _)) (aq (aB bW)) aM)
  (aj (aF (i := 4) dW.nd rfl (Or.inl rfl) (az cg (pv 2) (bO (v := .int 32) rfl T.c_BLOCK_BITS ⟨_, rfl⟩)))
  (aj (aF (i := 5) dW.nd rfl (Or.inl rfl) (aD T.D_first_within (jf T) (by decide) hr aK rfl (aa (pv 0) (aa (pv 1) (aa (pv 4) (aa (pv 2) (aa (pv 3) ak)))))))
  (aj (aW (fV (uD (pv 5))) (aq (aB (pv 5))) aM)
  (aj (aF (i := 6) dW.nd rfl (Or.inl rfl) (aD T.D_first_at_most (nJ T) (by decide) hr aK rfl (aa (aD T.D_block_count (fZ T) (by decide) hr aK rfl (aa (pv 0) ak)) (aa (aD T.D_heap_look (iz T B) (by decide) hr aK rfl (aa (pv 0) ak)) (aa (az aV (pv 4) ao) (aa (pv 3) ak))))))
  (aj (aW (fV (iD (pv 6))) (aq (aB bW)) aM)
  (aq (aB (aD T.D_first_within (jf T) (by decide) hr aK rfl (aa (pv 0) (aa (pv 1) (aa (pv 6) (aa (pv 2) (aa (pv 3) ak))))))))))))))), ?_⟩
 have hlen := hB.ask.len
 refine ⟨_, rfl, _, rfl, p.t, _, _, _, rfl, rfl, SqT.of hB.ask.tab.tup, rfl, _, _, rfl, by omega, by omega, ?_⟩
 refine ⟨_, rfl, _, rfl, p.t, _, _, _, rfl, rfl, SqT.of hB.ask.tab.tup, rfl, rfl, _, rfl, aP (fun c => ?_) fun c => ?_⟩
 ·have c : V.int (at0 : Int) = V.int (p.ns.length : Int) := of_decide_eq_true c
  injection c with c
  exact q _ ss H (.inl ⟨rfl, cC.empty (by omega)⟩) ((hB.self _).le (by decide))
 have c : (at0 : Int) ≠ (p.ns.length : Int) := fun z => c (decide_eq_true (congrArg V.int z))
 have ef : (at0 : Int) / 32 = ((at0 / 32 : Nat) : Int) := by omega
 refine ⟨_, rfl, _, _, rfl, rfl, ⟨by decide, by decide⟩, ?_⟩
 refine ⟨_, rfl, _, rfl, _, rfl, _, rfl, _, rfl, p.t, p.f, p.sn, p.bl, p.ah, p.ns, ss, _, at0 / 32, at0, g, ?_, hB.ask, by omega, by omega, fun x ss1 H1 hx wr1 s1 => ?_⟩
 ·rw [← ef]
  rfl
 have d1 := hB.look wr1 s1
 have l1 := wr1.len
 have hB1 := hB.did d1 (by omega)
 rw [show max at0 (32 * (at0 / 32)) = at0 from by omega] at hx
 rcases hx with ⟨rfl, hno⟩ | ⟨k, rfl, hf⟩
 rotate_left
 ·refine ⟨_, rfl, _, rfl, dN ⟨_, rfl, q _ ss1 H1 (.inr ⟨k, rfl, hf.wider (by unfold wide; omega)⟩) (d1.le (by decide))⟩⟩
 refine ⟨_, rfl, _, rfl, cW ?_⟩
 obtain ⟨e1, e2⟩ := hB.lenL
 refine ⟨_, rfl, p.t, p.ah, p.ns, _, rfl, hB1.ask.tab, ?_⟩
 refine ⟨_, rfl, p.t, p.nd, _, _, p.xs, rfl, hB1.ask.tab.tup, hB1.nds, hB1.tab, fun fh H5 nf b5 hT5 qu => ?_⟩
 have d5 := d1.trans (hB1.made b5 hT5 (many p.ns.length))
 have hB5 := hB.did d5 (by omega)
 have ev : [V.int ((many p.ns.length : Nat) : Int), .ref fh, .int ((at0 : Int) / 32 + 1), .int g] = [.int (p.lows.length : Int), .ref fh, .int ((at0 / 32 + 1 : Nat) : Int), .int g] := by
  rw [e1, ef]
  rfl
 have hle : at0 / 32 + 1 ≤ many p.ns.length := by
  unfold many
  omega
 refine ⟨_, rfl, _, _, rfl, rfl, _, rfl, fh, p.nd, p.xs, p.lows, p.S, at0 / 32 + 1, g, ev, qu, hB.sz, hB.heap, by omega, by omega, fun x H6 s6 hx => ?_⟩
 have d6 := d5.same s6
 have hB6 := hB5.same s6
 have hno1 : cC p.ns at0 (32 * (at0 / 32 + 1)) g ∨ 32 * (at0 / 32 + 1) > p.ns.length := by
  rcases Nat.lt_or_ge p.ns.length (32 * (at0 / 32 + 1)) with z | z
  ·exact .inr z
  ·rw [show 32 * (at0 / 32) + wide p.ns.length (at0 / 32) = 32 * (at0 / 32 + 1) from by unfold wide; omega] at hno
   exact .inl hno
 rcases hx with ⟨rfl, hall⟩ | ⟨i, rfl, h3, h4, ⟨c5, h5, h5'⟩, h6⟩
 ·refine ⟨_, rfl, _, rfl, dN (q _ ss1 H6 (.inl ⟨rfl, ?_⟩) (d6.le (by decide)))⟩
  rcases hno1 with hno1 | z
  ·refine hno1.join (hB.low.none (i := at0 / 32 + 1) (j := many p.ns.length) (fun t cc t1 t2 e => hall t cc t1 e) ?_ (Nat.le_refl _))
   unfold many
   omega
  ·rw [show 32 * (at0 / 32) + wide p.ns.length (at0 / 32) = p.ns.length from by unfold wide; omega] at hno
   exact hno
 rw [e1] at h4
 have hi : 32 * i < p.ns.length := by
  unfold many at h4
  omega
 have hno1' : cC p.ns at0 (32 * (at0 / 32 + 1)) g := by
  rcases hno1 with z | z
  ·exact z
  ·omega
 refine ⟨_, rfl, _, rfl, cW ?_⟩
 refine ⟨_, rfl, _, rfl, _, rfl, _, rfl, _, rfl, p.t, p.f, p.sn, p.bl, p.ah, p.ns, ss1, _, i, at0, g, rfl, hB6.ask, by omega, hi, fun x ss7 H7 hx wr7 s7 => ?_⟩
 have d7 := d6.trans (hB6.look wr7 s7)
 rw [show max at0 (32 * i) = 32 * i from by omega, show 32 * i + wide p.ns.length i = min (32 * i + 32) p.ns.length from by unfold wide; omega] at hx
 have hno2 : cC p.ns at0 (32 * i) g := hno1'.join (hB.low.none (i := at0 / 32 + 1) (j := i) (fun t cc t1 t2 e => h6 t cc t1 (by rw [e1]; omega) (by rw [if_pos rfl]; exact t2) e) (Nat.le_refl _) (by omega))
 rcases hx with ⟨rfl, hn⟩ | ⟨k, rfl, hf⟩
 ·exact absurd hn (hB.low.some h5 h5')
 ·refine q _ ss7 H7 (.inr ⟨k, rfl, ?_⟩) d7
  exact ((dz.after hno2 hf (by omega)).wider (by omega))
def rG : Sp := fun vs H Q _ => ∃ (t f sn bl ah : Addr) (ns ss : List Int) (rest : List V) (j up : Nat) (g : Int), vs = [.ref t, .ref f, .int (j : Int), .int (up : Int), .int g] ∧ Ask H t f sn bl ah ns ss rest ∧ ss.length < 1000 ∧ 32 * j < up ∧ up ≤ ns.length ∧
 ∀ x ss' H', ((x = .non ∧ cC ns (32 * j) (32 * j + wide up j) g) ∨ ∃ k : Nat, x = .int (k : Int) ∧ gK ns (32 * j) (32 * j + wide up j) g k) → bU (many ns.length) 1 ss ss' → aY (upd H sn (.lst (ss'.map V.int))) H' → Q x H'
theorem jC (T : Tx K mg a) : bj P w K mg base CX0 5 a.f_last_within a.fd_last_within ["tables", "look", "number", "upto", "goal"] rG := by
 refine T.D_last_within.F.ok jz (fun vs H Q E h => ?_) (fun cdv A outer s H vs Q E hr h => ?_)
 ·obtain ⟨t, f, sn, bl, ah, ns, ss, rest, j, up, g, rfl, _⟩ := h
  rfl
 obtain ⟨t, f, sn, bl, ah, ns, ss, rest, j, up, g, rfl, hA, hls, hj, hup, q⟩ := h
 refine ⟨_, (aj (aF (i := 5) jz.nd rfl (Or.inl rfl) (aD T.D_end_within (dZ T) (by decide) hr aK rfl (aa (pv 2) (aa (pv 3) ak))))
  (aq (aB (aD T.D_place_of_bit (je T) (by decide) hr aK rfl (aa (pv 2) (aa (aD T.D_last_low_in (qT T) (by decide) hr aK rfl (aa (dh ((bZ T).mono (by decide)) hr (i := 1) rfl (aa (pv 2) ak)) (aa ao (aa (pv 5) (aa (az bx (pv 4) (aD T.D_base_of (jc T) (by decide) hr aK rfl (aa (pv 0) (aa (pv 2) ak)))) ak))))) ak)))))), ?_⟩
 obtain ⟨o, fd, e1, g1⟩ := hA.asks.look.fn
 have hm : j < many ns.length := by
  unfold many
  omega
 have hw : wide up j ≤ 32 := by
  unfold wide
  omega
 have hg : ((cV ns).map V.int)[j]? = some (.int (bK ns j)) := by
  rw [List.getElem?_map, dD hm]
  rfl
 refine ⟨_, rfl, _, rfl, j, up, rfl, Nat.le_of_lt hj, ?_⟩
 refine ⟨_, rfl, f, o, fd, rfl, e1, g1, _, rfl, e1, sn, bl, ss, _, j, _, rfl, hA.asks, hls, hg, ?_⟩
 have hA2 := hA.more (tt := ss ++ [(j : Int)]) (by rw [List.length_append, List.length_singleton]; omega)
 refine ⟨_, rfl, _, rfl, _, rfl, _, rfl, t, ah, ns, rest, j, rfl, hA2.tab, Nat.le_of_lt hm, _, _, rfl, rfl, ?_⟩
 have w := bU.one (n := many ns.length) ss (i := (j : Int)) (by omega) (by omega)
 refine ⟨bK ns j, 0, wide up j, g - ht ns (32 * j), rfl, hw, fun H' k sm hd hle => ?_, fun H' sm hno => ?_⟩
 ·exact ⟨j, _, rfl, .inr ⟨k, rfl, q _ _ H' (.inr ⟨_, rfl, last_within hA.bits hw hd hle⟩) w sm⟩⟩
 ·exact ⟨j, _, rfl, .inl ⟨rfl, q _ _ H' (.inl ⟨rfl, pF hA.bits hw hno⟩) w sm⟩⟩
def m6 (Ph : Addr) : Sp := fun vs H Q _ => ∃ (p : BP) (ss : List Int) (at0 : Nat) (g : Int), vs = [.ref p.t, .ref p.f, .int ((at0 : Int) - 1), .int g] ∧ Brk H Ph p ss ∧ ss.length ≤ 990 ∧ at0 ≤ p.ns.length + 1 ∧
 ∀ x ss' H', ((x = .non ∧ cC p.ns 0 (at0 - 1) g) ∨ ∃ k : Nat, x = .int (k : Int) ∧ gK p.ns 0 (at0 - 1) g k) → Did H H' Ph p.sn (many p.ns.length) 2 ss ss' → Q x H'
theorem oO (T : Tx K mg a) (B : Bs mg base a) : bj P w K mg base CX0 6 a.f_last_low_upto a.fd_last_low_upto ["tables", "look", "upto", "goal"] (m6 a.tP_heap_look) := by
 refine T.D_last_low_upto.F.ok cZ (fun vs H Q E h => ?_) (fun cdv A outer s H vs Q E hr h => ?_)
 ·obtain ⟨p, ss, at0, g, rfl, _⟩ := h
  rfl
 obtain ⟨p, ss, at0, g, rfl, hB, hls, h1, q⟩ := h
 refine ⟨_, (aj (aW (aL jg (pv 2) ao (aN _)) (aq (aB bW)) aM)
  (aj (aF (i := 4) cZ.nd rfl (Or.inl rfl) (az cg (az bx (pv 2) ao) (bO (v := .int 32) rfl T.c_BLOCK_BITS ⟨_, rfl⟩)))
  (aj (aF (i := 5) cZ.nd rfl (Or.inl rfl) (aD T.D_last_within (jC T) (by decide) hr aK rfl (aa (pv 0) (aa (pv 1) (aa (pv 4) (aa (pv 2) (aa (pv 3) ak)))))))
  (aj (aW (fV (uD (pv 5))) (aq (aB (pv 5))) aM)
  (aj (aF (i := 6) cZ.nd rfl (Or.inl rfl) (aD T.D_last_at_most (pR T) (by decide) hr aK rfl (aa (aD T.D_block_count (fZ T) (by decide) hr aK rfl (aa (pv 0) ak)) (aa (aD T.D_heap_look (iz T B) (by decide) hr aK rfl (aa (pv 0) ak)) (aa (pv 4) (aa (pv 3) ak))))))
  (aj (aW (fV (iD (pv 6))) (aq (aB bW)) aM)
  (aq (aB (aD T.D_last_within (jC T) (by decide) hr aK rfl (aa (pv 0) (aa (pv 1) (aa (pv 6) (aa (pv 2) (aa (pv 3) ak)))))))))))))), ?_⟩
 have hlen := hB.ask.len
 refine ⟨_, rfl, _, _, rfl, rfl, _, rfl, aP (fun c => ?_) fun c => ?_⟩
 ·have c : (at0 : Int) - 1 < 1 := of_decide_eq_true c
  exact q _ ss H (.inl ⟨rfl, cC.empty (by omega)⟩) ((hB.self _).le (by decide))
 have c : ¬ (at0 : Int) - 1 < 1 := fun z => c (decide_eq_true z)
 obtain ⟨up, rfl⟩ : ∃ up, at0 = up + 1 := ⟨at0 - 1, by omega⟩
 rw [Nat.add_sub_cancel] at q
 have eu : ((up + 1 : Nat) : Int) - 1 = (up : Int) := by omega
 have ef : (((up + 1 : Nat) : Int) - 1 - 1) / 32 = (((up - 1) / 32 : Nat) : Int) := by omega
 refine ⟨_, rfl, _, _, rfl, rfl, _, _, rfl, rfl, ⟨by decide, by decide⟩, ?_⟩
 refine ⟨_, rfl, _, rfl, _, rfl, _, rfl, _, rfl, p.t, p.f, p.sn, p.bl, p.ah, p.ns, ss, _, (up - 1) / 32, up, g, ?_, hB.ask, by omega, by omega, by omega, fun x ss1 H1 hx wr1 s1 => ?_⟩
 ·rw [← ef, ← eu]
  rfl
 have d1 := hB.look wr1 s1
 have l1 := wr1.len
 have hB1 := hB.did d1 (by omega)
 rw [show 32 * ((up - 1) / 32) + wide up ((up - 1) / 32) = up from by unfold wide; omega] at hx
 rcases hx with ⟨rfl, hno⟩ | ⟨k, rfl, hf⟩
 rotate_left
 ·refine ⟨_, rfl, _, rfl, dN ⟨_, rfl, q _ ss1 H1 (.inr ⟨k, rfl, hf.wider (by omega)⟩) (d1.le (by decide))⟩⟩
 refine ⟨_, rfl, _, rfl, cW ?_⟩
 obtain ⟨e1, e2⟩ := hB.lenL
 refine ⟨_, rfl, p.t, p.ah, p.ns, _, rfl, hB1.ask.tab, ?_⟩
 refine ⟨_, rfl, p.t, p.nd, _, _, p.xs, rfl, hB1.ask.tab.tup, hB1.nds, hB1.tab, fun fh H5 nf b5 hT5 qu => ?_⟩
 have d5 := d1.trans (hB1.made b5 hT5 (many p.ns.length))
 have hB5 := hB.did d5 (by omega)
 have ev : [V.int ((many p.ns.length : Nat) : Int), .ref fh, .int ((((up + 1 : Nat) : Int) - 1 - 1) / 32), .int g] = [.int (p.lows.length : Int), .ref fh, .int (((up - 1) / 32 : Nat) : Int), .int g] := by
  rw [e1, ef]
 have hle : (up - 1) / 32 ≤ many p.ns.length := by
  unfold many
  omega
 refine ⟨_, rfl, _, rfl, fh, p.nd, p.xs, p.lows, p.S, (up - 1) / 32, g, ev, qu, hB.sz, hB.heap, by omega, by omega, fun x H6 s6 hx => ?_⟩
 have d6 := d5.same s6
 have hB6 := hB5.same s6
 rcases hx with ⟨rfl, hall⟩ | ⟨i, rfl, h3, h4, ⟨c5, h5, h5'⟩, h6⟩
 ·refine ⟨_, rfl, _, rfl, dN (q _ ss1 H6 (.inl ⟨rfl, ?_⟩) (d6.le (by decide)))⟩
  have := hB.low.none (i := 0) (j := (up - 1) / 32) (b := 32 * ((up - 1) / 32)) (fun t cc t1 t2 e => hall t cc t2 e) (Nat.le_refl _) (by omega)
  exact this.join hno
 refine ⟨_, rfl, _, rfl, cW ?_⟩
 refine ⟨_, rfl, _, rfl, _, rfl, _, rfl, _, rfl, p.t, p.f, p.sn, p.bl, p.ah, p.ns, ss1, _, i, up, g, ?_, hB6.ask, by omega, by omega, by omega, fun x ss7 H7 hx wr7 s7 => ?_⟩
 ·rw [← eu]
  rfl
 have d7 := d6.trans (hB6.look wr7 s7)
 rw [show 32 * i + wide up i = 32 * (i + 1) from by unfold wide; omega] at hx
 have hno2 : cC p.ns (32 * (i + 1)) up g := (hB.low.none (i := i + 1) (j := (up - 1) / 32) (b := 32 * ((up - 1) / 32)) (fun t cc t1 t2 e => h6 t cc (Nat.zero_le _) t2 (by rw [if_neg (by decide)]; omega) e) (Nat.le_refl _) (by omega)).join hno
 rcases hx with ⟨rfl, hn⟩ | ⟨k, rfl, hf⟩
 ·refine absurd ?_ (hB.low.some h5 h5')
  rw [show min (32 * i + 32) p.ns.length = 32 * (i + 1) from by omega]
  exact hn
 ·exact q _ ss7 H7 (.inr ⟨k, rfl, (gK.ahead hno2 hf (by omega)).wider (by omega)⟩) d7
def uY (Ph : Addr) : Sp := fun vs H Q _ => ∃ (p : BP) (ss : List Int) (at0 : Nat) (g : Int), vs = [.ref p.t, .ref p.f, .int (at0 : Int), .int g] ∧ Brk H Ph p ss ∧ ss.length ≤ 990 ∧ at0 ≤ p.ns.length ∧
 ∀ x ss' H', ((x = .non ∧ Bb p.ns at0 g) ∨ ∃ k : Nat, x = .int (k : Int) ∧ oZ p.ns at0 g k) → Did H H' Ph p.sn (many p.ns.length) 2 ss ss' → Q x H'
theorem lO (T : Tx K mg a) (B : Bs mg base a) : bj P w K mg base CX0 7 a.f_low_ahead a.fd_low_ahead ["tables", "look", "at", "goal"] (uY a.tP_heap_look) := by
 refine T.D_low_ahead.F.ok lM (fun vs H Q E h => ?_) (fun cdv A outer s H vs Q E hr h => ?_)
 ·obtain ⟨p, ss, at0, g, rfl, _⟩ := h
  rfl
 obtain ⟨p, ss, at0, g, rfl, hB, hls, h1, q⟩ := h
 refine ⟨_, (aj (bz (aD T.D_check_place (dH T) (by decide) hr aK rfl (aa (pv 2) (aa (aQ bC (pv 0) ao (fun _ _ => rfl)) ak))))
  (aj (aF (i := 4) lM.nd rfl (Or.inl rfl) (aD T.D_last_low_upto (oO T B) (by decide) hr aK rfl (aa (pv 0) (aa (pv 1) (aa (az bx (pv 2) ao) (aa (pv 3) ak))))))
  (aj (aW (PW.pt (jk (fV (iD (pv 4))) (jk (aL gU (pv 2) ao (aN _)) (iW (aL tZ (pv 3) ao (aN _)))))) (aq (aB ao)) aM)
  (aq (aB (pv 4)))))), ?_⟩
 refine ⟨_, rfl, _, rfl, p.t, _, _, _, rfl, rfl, SqT.of hB.ask.tab.tup, rfl, _, _, rfl, by omega, by omega, ?_⟩
 refine ⟨_, rfl, _, rfl, _, rfl, _, _, rfl, rfl, _, rfl, p, ss, at0, g, rfl, hB, hls, by omega, fun x ss1 H1 hx d1 => ?_⟩
 rcases hx with ⟨rfl, hno⟩ | ⟨k, rfl, f1, f2, f3, f4⟩
 rotate_left
 ·refine ⟨_, rfl, _, rfl, cW (cW ⟨_, rfl, q _ ss1 H1 (.inr ⟨k, rfl, by omega, f3, fun i i1 i2 => f4 i i1 (by omega)⟩) d1⟩)⟩
 refine ⟨_, rfl, _, rfl, dN ?_⟩
 refine ⟨_, rfl, _, _, rfl, rfl, _, rfl, aP (fun c1 => ?_) fun c1 => cW ⟨_, rfl, q _ ss1 H1 (.inl ⟨rfl, fun i hi => ?_⟩) d1⟩⟩
 rotate_left
 ·have c1 : ¬ (0 : Int) < (at0 : Int) := fun z => c1 (decide_eq_true z)
  omega
 have c1 : (0 : Int) < (at0 : Int) := of_decide_eq_true c1
 refine ⟨_, rfl, _, _, rfl, rfl, _, rfl, aP (fun c2 => ?_) fun c2 => ⟨_, rfl, q _ ss1 H1 (.inl ⟨rfl, fun i hi => ?_⟩) d1⟩⟩
 ·have c2 : (0 : Int) ≤ g := of_decide_eq_true c2
  have := q _ ss1 H1 (.inr ⟨0, rfl, by omega, by rw [dY]; exact c2, fun i i1 i2 => hno i i1 (by omega)⟩) d1
  exact this
 ·have c2 : ¬ (0 : Int) ≤ g := fun z => c2 (decide_eq_true z)
  rcases Nat.eq_zero_or_pos i with rfl | h0
  ·rw [dY]
   omega
  ·exact hno i h0 (by omega)
theorem tW {b : Int} {n st : Nat} {x : Int} : x ∈ (nets b n).drop st ↔ ∃ k, st < k ∧ k ≤ n ∧ x = net b k := by
 constructor
 ·intro h
  obtain ⟨i, hi⟩ := List.getElem?_of_mem h
  rw [List.getElem?_drop] at hi
  have hl := (List.getElem?_eq_some_iff.mp hi).1
  rw [cI] at hl
  rw [lX hl] at hi
  cases hi
  exact ⟨st + i + 1, by omega, by omega, rfl⟩
 ·rintro ⟨k, h1, h2, rfl⟩
  refine List.mem_of_getElem? (i := k - 1 - st) ?_
  rw [List.getElem?_drop, show st + (k - 1 - st) = k - 1 from by omega, lX (by omega), show k - 1 + 1 = k from by omega]
theorem yc {ns : List Int} (h : bu ns) {j st n : Nat} {M : Int} (hn : n ≤ 32) (hM : qN M ((nets (bK ns j) n).drop st)) : sJ ns (32 * j + st) (32 * j + n) (ht ns (32 * j) + M) := by
 obtain ⟨h1, h2⟩ := hM
 constructor
 ·obtain ⟨k, k1, k2, rfl⟩ := tW.mp h1
  exact ⟨32 * j + k, by omega, by omega, (gW h j k (by omega)).symm⟩
 ·intro k k1 k2
  have := h2 _ (tW.mpr ⟨k - 32 * j, by omega, by omega, rfl⟩)
  have e := gW h j (k - 32 * j) (by omega)
  rw [show 32 * j + (k - 32 * j) = k from by omega] at e
  omega
def nY : Sp := fun vs H Q _ => ∃ (t f sn bl ah : Addr) (ns ss : List Int) (rest : List V) (j at0 up : Nat), vs = [.ref t, .ref f, .int (j : Int), .int (at0 : Int), .int (up : Int)] ∧ Ask H t f sn bl ah ns ss rest ∧ ss.length < 1000 ∧ 32 * j < up ∧ up ≤ ns.length ∧ at0 < 32 * j + wide up j ∧
 ∀ m ss' H', sJ ns (max at0 (32 * j)) (32 * j + wide up j) m → bU (many ns.length) 1 ss ss' → aY (upd H sn (.lst (ss'.map V.int))) H' → Q (.int m) H'
theorem gQ (T : Tx K mg a) : bj P w K mg base CX0 4 a.f_lowest_within a.fd_lowest_within ["tables", "look", "number", "at", "upto"] nY := by
 refine T.D_lowest_within.F.ok iw (fun vs H Q E h => ?_) (fun cdv A outer s H vs Q E hr h => ?_)
 ·obtain ⟨t, f, sn, bl, ah, ns, ss, rest, j, at0, up, rfl, _⟩ := h
  rfl
 obtain ⟨t, f, sn, bl, ah, ns, ss, rest, j, at0, up, rfl, hA, hls, hj, hup, hat, q⟩ := h
 refine ⟨_, (aj (aF (i := 5) iw.nd rfl (Or.inl rfl) (aD T.D_nets_of (iI T) (by decide) hr aK rfl (aa (dh ((bZ T).mono (by decide)) hr (i := 1) rfl (aa (pv 2) ak)) (aa (aD T.D_end_within (dZ T) (by decide) hr aK rfl (aa (pv 2) (aa (pv 4) ak))) ak))))
  (aq (aB (az aV (aD T.D_base_of (jc T) (by decide) hr aK rfl (aa (pv 0) (aa (pv 2) ak))) (aU (sX rfl) rfl T.b_min Tw.jE (aa (il jQ (pv 5) (iV (aD T.D_start_within (jh T) (by decide) hr aK rfl (aa (pv 2) (aa (pv 3) ak)))) lU) ak)))))), ?_⟩
 obtain ⟨o, fd, e1, g1⟩ := hA.asks.look.fn
 have hm : j < many ns.length := by
  unfold many
  omega
 have hw : 1 ≤ wide up j ∧ wide up j ≤ 32 := by
  unfold wide
  omega
 have hg : ((cV ns).map V.int)[j]? = some (.int (bK ns j)) := by
  rw [List.getElem?_map, dD hm]
  rfl
 refine ⟨f, o, fd, rfl, e1, g1, _, rfl, e1, sn, bl, ss, _, j, _, rfl, hA.asks, hls, hg, ?_⟩
 refine ⟨_, rfl, _, rfl, j, up, rfl, Nat.le_of_lt hj, ?_⟩
 refine ⟨_, _, rfl, by omega, by omega, fun r H2 hr2 s2 x2 => ?_⟩
 rw [Int.toNat_natCast] at x2
 have hA2 := (hA.more (tt := ss ++ [(j : Int)]) (by rw [List.length_append, List.length_singleton]; omega)).same s2
 refine ⟨_, rfl, _, rfl, t, ah, ns, rest, j, rfl, hA2.tab, Nat.le_of_lt hm, ?_⟩
 refine ⟨_, rfl, _, rfl, _, rfl, j, at0, rfl, _, rfl, r, _, rfl, SqL.of x2, fun c hc => ?_⟩
 have ec : jo ((nets (bK ns j) (wide up j)).map V.int) (some ((at0 - 32 * j : Nat) : Int)) none = ((nets (bK ns j) (wide up j)).drop (at0 - 32 * j)).map V.int := vz _ _
 refine ⟨c, (nets (bK ns j) (wide up j)).drop (at0 - 32 * j), rfl, SqL.of (by rw [← ec]; exact au), ?_, fun M hM => ⟨_, _, rfl, rfl, ?_⟩⟩
 ·rw [List.length_drop, cI]
  omega
 have := yc hA.bits hw.2 hM
 rw [show 32 * j + (at0 - 32 * j) = max at0 (32 * j) from by omega] at this
 exact q _ (ss ++ [(j : Int)]) _ this (bU.one ss (by omega) (by omega)) (s2.trans (aA hc _))
def zQ (Ph : Addr) : Sp := fun vs H Q _ => ∃ (p : BP) (ss : List Int) (at0 up : Nat), vs = [.ref p.t, .ref p.f, .int (at0 : Int), .int (up : Int)] ∧ Brk H Ph p ss ∧ ss.length ≤ 990 ∧ at0 < up ∧ up ≤ p.ns.length ∧
 ∀ m ss' H', sJ p.ns at0 up m → Did H H' Ph p.sn (many p.ns.length) 2 ss ss' → Q (.int m) H'
theorem zA (T : Tx K mg a) (B : Bs mg base a) : bj P w K mg base CX0 5 a.f_lowest a.fd_lowest ["tables", "look", "at", "upto"] (zQ a.tP_heap_look) := by
 refine T.D_lowest.F.ok jU (fun vs H Q E h => ?_) (fun cdv A outer s H vs Q E hr h => ?_)
 ·obtain ⟨p, ss, at0, up, rfl, _⟩ := h
  rfl
 obtain ⟨p, ss, at0, up, rfl, hB, hls, h1, h2, q⟩ := h
 refine ⟨_, (aj (aW (lw (tV di jg di ao (pv 2) (pv 3) (aQ bC (pv 0) ao (fun _ _ => rfl)))) (aq cO) aM)
  (aj (aF (i := 4) jU.nd rfl (Or.inl rfl) (az cg (pv 2) (bO (v := .int 32) rfl T.c_BLOCK_BITS ⟨_, rfl⟩)))
  (aj (aF (i := 5) jU.nd rfl (Or.inl rfl) (az cg (az bx (pv 3) ao) (bO (v := .int 32) rfl T.c_BLOCK_BITS ⟨_, rfl⟩)))
  (aj (aF (i := 6) jU.nd rfl (Or.inl rfl) (cD (aa (aD T.D_lowest_within (gQ T) (by decide) hr aK rfl (aa (pv 0) (aa (pv 1) (aa (pv 4) (aa (pv 2) (aa (pv 3) ak)))))) ak)))
  (aj (aW (aL gU (pv 5) (pv 4) (aN _)) (aq (bz (ir PySem.F.plainAttrs_list PySem.F.slot_list_append PySem.F.type_list_append bT (pv 6) (aa (aD T.D_lowest_within (gQ T) (by decide) hr aK rfl (aa (pv 0) (aa (pv 1) (aa (pv 5) (aa (pv 2) (aa (pv 3) ak)))))) ak)))) aM)
  (aj (aW (aL gU (pv 5) (az aV (pv 4) ao) (aN _)) (aq (bz (ir PySem.F.plainAttrs_list PySem.F.slot_list_append PySem.F.type_list_append bT (pv 6) (aa (aD T.D_least_of (v9 T) (by decide) hr aK rfl (aa (aD T.D_block_count (fZ T) (by decide) hr aK rfl (aa (pv 0) ak)) (aa (aD T.D_heap_look (iz T B) (by decide) hr aK rfl (aa (pv 0) ak)) (aa (az aV (pv 4) ao) (aa (pv 5) ak))))) ak)))) aM)
  (aq (aB (aU (sX rfl) rfl T.b_min Tw.jE (aa (pv 6) ak)))))))))), ?_⟩
 have hlen := hB.ask.len
 refine ⟨_, rfl, _, _, rfl, rfl, _, rfl, aP (fun _ => ?_) fun z => absurd (decide_eq_true (show (0 : Int) ≤ (at0 : Int) from by omega)) z⟩
 refine ⟨_, rfl, _, _, rfl, rfl, _, rfl, aP (fun _ => ?_) fun z => absurd (decide_eq_true (show (at0 : Int) < (up : Int) from by omega)) z⟩
 refine ⟨_, rfl, p.t, _, _, _, rfl, rfl, SqT.of hB.ask.tab.tup, rfl, _, _, rfl, rfl, _, rfl, ?_⟩
 rw [decide_eq_true (show (up : Int) ≤ (p.ns.length : Int) from by omega)]
 refine cW ?_
 refine ⟨_, rfl, _, _, rfl, rfl, ⟨by decide, by decide⟩, ?_⟩
 refine ⟨_, rfl, _, _, rfl, rfl, _, _, rfl, rfl, ⟨by decide, by decide⟩, ?_⟩
 have ef : (at0 : Int) / 32 = ((at0 / 32 : Nat) : Int) := by omega
 have el : ((up : Int) - 1) / 32 = (((up - 1) / 32 : Nat) : Int) := by omega
 have w1 : at0 < 32 * (at0 / 32) + wide up (at0 / 32) := by
  unfold wide
  omega
 refine ⟨_, rfl, _, rfl, _, rfl, _, rfl, _, rfl, p.t, p.f, p.sn, p.bl, p.ah, p.ns, ss, _, at0 / 32, at0, up, ?_, hB.ask, by omega, by omega, h2, w1, fun m1 ss1 H1 hm1 wr1 s1 => ?_⟩
 ·rw [← ef]
  rfl
 have d1 := hB.look wr1 s1
 have l1 := wr1.len
 have hB1 := hB.did d1 (by omega)
 refine ⟨(by show 1 ≤ sizeLine; decide), fun r hr' => ?_⟩
 have s2 := aA hr' (.lst [.int m1])
 have d2 := d1.same s2
 have hB2 := hB1.same s2
 have xr2 : upd H1 r (.lst [.int m1]) r = some (.lst ([m1].map V.int)) := au
 have nr : r ≠ p.sn := fun z => by rw [z, d1.seen] at hr'; cases hr'
 generalize upd H1 r (.lst [.int m1]) = H2 at *
 refine ⟨_, rfl, _, rfl, _, _, rfl, rfl, _, rfl, aP (fun c1 => ?_) fun c1 => ?_⟩
 rotate_left
 ·have c1 : ¬ (at0 : Int) / 32 < ((up : Int) - 1) / 32 := fun z => c1 (decide_eq_true z)
  refine ⟨_, rfl, _, rfl, _, _, rfl, rfl, _, _, rfl, rfl, _, rfl, aP (fun c2 => ?_) fun c2 => ?_⟩
  ·have c2 : (at0 : Int) / 32 + 1 < ((up : Int) - 1) / 32 := of_decide_eq_true c2
   omega
  refine ⟨_, rfl, r, [m1], rfl, SqL.of xr2, Nat.succ_pos _, fun M hM => q M ss1 H2 ?_ (d2.le (by decide))⟩
  have : M = m1 := List.mem_singleton.mp hM.1
  subst this
  rw [show max at0 (32 * (at0 / 32)) = at0 from by omega, show 32 * (at0 / 32) + wide up (at0 / 32) = up from by unfold wide; omega] at hm1
  exact hm1
 have c1 : (at0 : Int) / 32 < ((up : Int) - 1) / 32 := of_decide_eq_true c1
 have w2 : at0 < 32 * ((up - 1) / 32) + wide up ((up - 1) / 32) := by
  unfold wide
  omega
 refine ⟨_, rfl, .inl ⟨rfl, _, SqL.of xr2⟩, _, rfl, _, rfl, _, rfl, _, rfl, _, rfl, p.t, p.f, p.sn, p.bl, p.ah, p.ns, ss1, _, (up - 1) / 32, at0, up, ?_, hB2.ask, by omega, by omega, h2, w2, fun m2 ss3 H3 hm2 wr3 s3 => ?_⟩
 ·rw [← el]
  rfl
 have d3 := hB2.look wr3 s3
 have l3 := wr3.len
 have hB3 := hB2.did d3 (by omega)
 have dA := d2.trans d3
 have nPr : r ≠ a.tP_heap_look := TabAt.ne hB2.tab xr2 nofun
 have xr3 := d3.kp _ _ xr2 nPr nr
 refine ⟨r, _, _, rfl, rfl, xr3, (by show 1 < sizeLine; decide), ?_⟩
 have hr0 := d1.free hr'
 have d4 : Did H (upd H3 r (.lst ([m1].map V.int ++ [.int m2]))) a.tP_heap_look p.sn (many p.ns.length) 2 ss ss3 := dA.set hr0 xr3 nr
 have xr4 : upd H3 r (.lst ([m1].map V.int ++ [.int m2])) r = some (.lst ([m1, m2].map V.int)) := au
 have hB4 := hB.did d4 (by omega)
 generalize upd H3 r (.lst ([m1].map V.int ++ [.int m2])) = H4 at *
 rw [show max at0 (32 * (at0 / 32)) = at0 from by omega, show 32 * (at0 / 32) + wide up (at0 / 32) = 32 * (at0 / 32 + 1) from by unfold wide; omega] at hm1
 rw [show max at0 (32 * ((up - 1) / 32)) = 32 * ((up - 1) / 32) from by omega, show 32 * ((up - 1) / 32) + wide up ((up - 1) / 32) = up from by unfold wide; omega] at hm2
 refine ⟨_, rfl, _, rfl, _, _, rfl, rfl, _, _, rfl, rfl, _, rfl, aP (fun c2 => ?_) fun c2 => ?_⟩
 rotate_left
 ·have c2 : ¬ (at0 : Int) / 32 + 1 < ((up : Int) - 1) / 32 := fun z => c2 (decide_eq_true z)
  refine ⟨_, rfl, r, [m1, m2], rfl, SqL.of xr4, Nat.succ_pos _, fun M hM => q M ss3 H4 ?_ d4⟩
  obtain ⟨M1, M2⟩ := hM
  rw [show at0 / 32 + 1 = (up - 1) / 32 from by omega] at hm1
  refine hm1.join2 hm2 (by omega) (by omega) ?_ (M2 m1 (by simp)) (M2 m2 (by simp))
  simpa using M1
 have c2 : (at0 : Int) / 32 + 1 < ((up : Int) - 1) / 32 := of_decide_eq_true c2
 obtain ⟨e1, e2⟩ := hB.lenL
 refine ⟨_, rfl, .inl ⟨rfl, _, SqL.of xr4⟩, _, rfl, p.t, p.ah, p.ns, _, rfl, hB4.ask.tab, ?_⟩
 refine ⟨_, rfl, p.t, p.nd, _, _, p.xs, rfl, hB4.ask.tab.tup, hB4.nds, hB4.tab, fun fh H5 nf b5 hT5 qu => ?_⟩
 have d5 := d4.trans (hB4.made b5 hT5 (many p.ns.length))
 have xr5 := b5 _ _ xr4 (TabAt.ne hB4.tab xr4 nofun)
 have ev : [V.int ((many p.ns.length : Nat) : Int), .ref fh, .int ((at0 : Int) / 32 + 1), .int (((up : Int) - 1) / 32)] = [.int (p.lows.length : Int), .ref fh, .int ((at0 / 32 + 1 : Nat) : Int), .int (((up - 1) / 32 : Nat) : Int)] := by
  rw [e1, el, ef]
  rfl
 have hle : (up - 1) / 32 ≤ many p.ns.length := by
  unfold many
  omega
 refine ⟨_, rfl, _, _, rfl, rfl, _, rfl, fh, p.nd, p.xs, p.lows, p.S, at0 / 32 + 1, (up - 1) / 32, ev, qu, hB.sz, hB.heap, by omega, by omega, by omega, fun M3 H6 hM3 s6 => ?_⟩
 have d6 := d5.same s6
 have xr6 := s6 _ _ xr5
 refine ⟨r, _, _, rfl, rfl, xr6, (by show 2 < sizeLine; decide), ?_⟩
 have d7 : Did H (upd H6 r (.lst ([m1, m2].map V.int ++ [.int M3]))) a.tP_heap_look p.sn (many p.ns.length) (2 + 0) ss ss3 := d6.set hr0 xr6 nr
 have hm3 := hB.low.minH (show at0 / 32 + 1 < (up - 1) / 32 by omega) (by omega) hM3.1 hM3.2
 refine ⟨_, rfl, r, [m1, m2, M3], rfl, SqL.of au, Nat.succ_pos _, fun M hM => q M ss3 _ ?_ d7⟩
 obtain ⟨M1, M2⟩ := hM
 have a1 := M2 m1 (by simp)
 have a2 := M2 m2 (by simp)
 have a3 := M2 M3 (by simp)
 have hor : M = m1 ∨ M = m2 ∨ M = M3 := by simpa using M1
 refine sJ.join2 (sJ.join2 hm1 hm3 (by omega) (by omega) (M := if m1 ≤ M3 then m1 else M3) ?_ ?_ ?_) hm2 (by omega) (by omega) ?_ ?_ a2
 ·split <;> simp
 ·split <;> omega
 ·split <;> omega
 ·split <;> omega
 ·split <;> omega
def nR : Sp := fun vs H Q E => ∃ (t f sn bl ah : Addr) (ns ss : List Int) (rest : List V) (at0 : Nat) (b : Int), vs = [.ref t, .ref f, .int (at0 : Int), .int b] ∧ Ask H t f sn bl ah ns ss rest ∧ ss.length < 1000 ∧ ns[at0]? = some b ∧
 ∀ ss' H', bU (many ns.length) 1 ss ss' → aY (upd H sn (.lst (ss'.map V.int))) H' → Q .non H'
theorem dR (T : Tx K mg a) : bj P w K mg base CX0 3 a.f_check_bracket a.fd_check_bracket ["tables", "look", "at", "bit"] nR := by
 refine T.D_check_bracket.F.ok n8 (fun vs H Q E h => ?_) (fun cdv A outer s H vs Q E hr h => ?_)
 ·obtain ⟨t, f, sn, bl, ah, ns, ss, rest, at0, b, rfl, _⟩ := h
  rfl
 obtain ⟨t, f, sn, bl, ah, ns, ss, rest, at0, b, rfl, hA, hls, hb, q⟩ := h
 refine ⟨_, (aq (aW (aL yJ (aD T.D_bit_at (gY T) (by decide) hr aK rfl (aa (pv 0) (aa (pv 1) (aa (pv 2) ak)))) (pv 3) (aN _)) (aq cO) aM)), ?_⟩
 exact ⟨_, rfl, _, rfl, _, rfl, t, f, sn, bl, ah, ns, ss, rest, at0, b, rfl, hA, hls, hb, fun ss' H' w sm => ⟨_, rfl, rfl, _, rfl, tH rfl (q ss' H' w sm)⟩⟩
def yt (Ph : Addr) : Sp := fun vs H Q _ => ∃ (p : BP) (ss : List Int) (at0 : Nat), vs = [.ref p.t, .ref p.f, .int (at0 : Int)] ∧ Brk H Ph p ss ∧ ss.length ≤ 980 ∧ Tree p.ns ∧ p.ns[at0]? = some 1 ∧
 ∀ (k : Nat) ss' H', dz p.ns at0 p.ns.length (ht p.ns at0) (k + 1) → Did H H' Ph p.sn (many p.ns.length) 4 ss ss' → Q (.int (k : Int)) H'
theorem qY (T : Tx K mg a) (B : Bs mg base a) : bj P w K mg base CX0 7 a.f_closing a.fd_closing ["tables", "look", "at"] (yt a.tP_heap_look) := by
 refine T.D_closing.F.ok xQ (fun vs H Q E h => ?_) (fun cdv A outer s H vs Q E hr h => ?_)
 ·obtain ⟨p, ss, at0, rfl, _⟩ := h
  rfl
 obtain ⟨p, ss, at0, rfl, hB, hls, htr, hb, q⟩ := h
 have hat := (List.getElem?_eq_some_iff.mp hb).1
 refine ⟨_, (aj (bz (aD T.D_check_bracket (dR T) (by decide) hr aK rfl (aa (pv 0) (aa (pv 1) (aa (pv 2) (aa ao ak))))))
  (aq (aB (az bx (aD T.D_low_behind (rN T B) (by decide) hr aK rfl (aa (pv 0) (aa (pv 1) (aa (pv 2) (aa (aD T.D_height (gR T) (by decide) hr aK rfl (aa (pv 0) (aa (pv 1) (aa (pv 2) ak)))) ak))))) ao)))), ?_⟩
 refine ⟨_, rfl, _, rfl, _, rfl, p.t, p.f, p.sn, p.bl, p.ah, p.ns, ss, _, at0, 1, rfl, hB.ask, by omega, hb, fun ss1 H1 w1 s1 => ?_⟩
 have d1 := hB.look w1 s1
 have l1 := w1.len
 have hB1 := hB.did d1 (by omega)
 refine ⟨_, rfl, _, rfl, _, rfl, _, rfl, _, rfl, _, rfl, p.t, p.f, p.sn, p.bl, p.ah, p.ns, ss1, _, at0, rfl, hB1.ask, by omega, by omega, fun ss2 H2 w2 s2 => ?_⟩
 have d2 := d1.trans (hB1.look w2 s2)
 have l2 := w2.len
 have hB2 := hB.did d2 (by omega)
 refine ⟨p, ss2, at0, ht p.ns at0, rfl, hB2, by omega, by omega, fun x ss3 H3 hx d3 => ?_⟩
 rcases hx with ⟨rfl, hn⟩ | ⟨k, rfl, hf⟩
 ·have := hn p.ns.length hat (Nat.le_refl _)
  rw [htr.2.1] at this
  have := htr.pos (k := at0) (by omega)
  omega
 ·obtain ⟨k, rfl⟩ : ∃ j, k = j + 1 := ⟨k - 1, by have := hf.1; omega⟩
  refine ⟨_, _, rfl, rfl, ?_⟩
  have := q k ss3 H3 hf (d2.trans d3)
  rw [show (k : Int) = ((k + 1 : Nat) : Int) - 1 from by omega] at this
  exact this
def yj (Ph : Addr) : Sp := fun vs H Q _ => ∃ (p : BP) (ss : List Int) (at0 : Nat), vs = [.ref p.t, .ref p.f, .int (at0 : Int)] ∧ Brk H Ph p ss ∧ ss.length ≤ 980 ∧ Tree p.ns ∧ p.ns[at0]? = some 0 ∧
 ∀ (k : Nat) ss' H', oZ p.ns at0 (ht p.ns at0 - 1) k → Did H H' Ph p.sn (many p.ns.length) 4 ss ss' → Q (.int (k : Int)) H'
theorem xP (T : Tx K mg a) (B : Bs mg base a) : bj P w K mg base CX0 8 a.f_opening a.fd_opening ["tables", "look", "at"] (yj a.tP_heap_look) := by
 refine T.D_opening.F.ok xJ (fun vs H Q E h => ?_) (fun cdv A outer s H vs Q E hr h => ?_)
 ·obtain ⟨p, ss, at0, rfl, _⟩ := h
  rfl
 obtain ⟨p, ss, at0, rfl, hB, hls, htr, hb, q⟩ := h
 have hat := (List.getElem?_eq_some_iff.mp hb).1
 refine ⟨_, (aj (bz (aD T.D_check_bracket (dR T) (by decide) hr aK rfl (aa (pv 0) (aa (pv 1) (aa (pv 2) (aa ao ak))))))
  (aq (aB (aD T.D_low_ahead (lO T B) (by decide) hr aK rfl (aa (pv 0) (aa (pv 1) (aa (pv 2) (aa (az bx (aD T.D_height (gR T) (by decide) hr aK rfl (aa (pv 0) (aa (pv 1) (aa (pv 2) ak)))) ao) ak)))))))), ?_⟩
 refine ⟨_, rfl, _, rfl, _, rfl, p.t, p.f, p.sn, p.bl, p.ah, p.ns, ss, _, at0, 0, rfl, hB.ask, by omega, hb, fun ss1 H1 w1 s1 => ?_⟩
 have d1 := hB.look w1 s1
 have l1 := w1.len
 have hB1 := hB.did d1 (by omega)
 refine ⟨_, rfl, _, rfl, _, rfl, _, rfl, _, rfl, _, rfl, p.t, p.f, p.sn, p.bl, p.ah, p.ns, ss1, _, at0, rfl, hB1.ask, by omega, by omega, fun ss2 H2 w2 s2 => ?_⟩
 have d2 := d1.trans (hB1.look w2 s2)
 have l2 := w2.len
 have hB2 := hB.did d2 (by omega)
 refine ⟨_, _, rfl, rfl, p, ss2, at0, ht p.ns at0 - 1, rfl, hB2, by omega, by omega, fun x ss3 H3 hx d3 => ?_⟩
 have hbit : 0 < at0 ∧ 0 ≤ ht p.ns at0 - 1 := by
  have h1 := dB hb
  have h2 := htr.pos (k := at0 + 1) (by omega)
  refine ⟨?_, by omega⟩
  rcases Nat.eq_zero_or_pos at0 with rfl | z
  ·rw [dY] at h1
   omega
  ·exact z
 rcases hx with ⟨rfl, hn⟩ | ⟨k, rfl, hf⟩
 ·have := hn 0 hbit.1
  rw [dY] at this
  omega
 ·exact q k ss3 H3 hf (d2.trans d3)
def xF (Ph : Addr) : Sp := fun vs H Q _ => ∃ (p : BP) (ss : List Int) (at0 : Nat) (pairs : Int), vs = [.ref p.t, .ref p.f, .int (at0 : Int), .int pairs] ∧ Brk H Ph p ss ∧ ss.length ≤ 980 ∧ Tree p.ns ∧ p.ns[at0]? = some 1 ∧
 ∀ x ss' H', ((pairs = 0 ∧ x = .int (at0 : Int)) ∨ (pairs ≠ 0 ∧ ((x = .non ∧ Bb p.ns at0 (ht p.ns at0 - pairs)) ∨ ∃ k : Nat, x = .int (k : Int) ∧ oZ p.ns at0 (ht p.ns at0 - pairs) k))) → Did H H' Ph p.sn (many p.ns.length) 4 ss ss' → Q x H'
theorem qy (T : Tx K mg a) (B : Bs mg base a) : bj P w K mg base CX0 8 a.f_further_out a.fd_further_out ["tables", "look", "at", "pairs"] (xF a.tP_heap_look) := by
 refine T.D_further_out.F.ok q9 (fun vs H Q E h => ?_) (fun cdv A outer s H vs Q E hr h => ?_)
 ·obtain ⟨p, ss, at0, pairs, rfl, _⟩ := h
  rfl
 obtain ⟨p, ss, at0, pairs, rfl, hB, hls, htr, hb, q⟩ := h
 have hat := (List.getElem?_eq_some_iff.mp hb).1
 refine ⟨_, (aj (bz (aD T.D_check_bracket (dR T) (by decide) hr aK rfl (aa (pv 0) (aa (pv 1) (aa (pv 2) (aa ao ak))))))
  (aj (aW (aL bY (pv 3) ao (aN _)) (aq (aB (pv 2))) aM)
  (aq (aB (aD T.D_low_ahead (lO T B) (by decide) hr aK rfl (aa (pv 0) (aa (pv 1) (aa (pv 2) (aa (az bx (aD T.D_height (gR T) (by decide) hr aK rfl (aa (pv 0) (aa (pv 1) (aa (pv 2) ak)))) (pv 3)) ak))))))))), ?_⟩
 refine ⟨_, rfl, _, rfl, _, rfl, p.t, p.f, p.sn, p.bl, p.ah, p.ns, ss, _, at0, 1, rfl, hB.ask, by omega, hb, fun ss1 H1 w1 s1 => ?_⟩
 have d1 := hB.look w1 s1
 have l1 := w1.len
 have hB1 := hB.did d1 (by omega)
 refine ⟨_, rfl, rfl, _, rfl, aP (fun c => ?_) fun c => ?_⟩
 ·have c : V.int pairs = V.int 0 := of_decide_eq_true c
  injection c with c
  exact ⟨_, rfl, q _ ss1 H1 (.inl ⟨c, rfl⟩) (d1.le (by decide))⟩
 have c : pairs ≠ 0 := fun z => c (decide_eq_true (congrArg V.int z))
 refine ⟨_, rfl, _, rfl, _, rfl, _, rfl, _, rfl, _, rfl, p.t, p.f, p.sn, p.bl, p.ah, p.ns, ss1, _, at0, rfl, hB1.ask, by omega, by omega, fun ss2 H2 w2 s2 => ?_⟩
 have d2 := d1.trans (hB1.look w2 s2)
 have l2 := w2.len
 have hB2 := hB.did d2 (by omega)
 exact ⟨_, rfl, _, _, rfl, rfl, p, ss2, at0, ht p.ns at0 - pairs, rfl, hB2, by omega, by omega, fun x ss3 H3 hx d3 => q x ss3 H3 (.inr ⟨c, hx⟩) (d2.trans d3)⟩
theorem En {n k : Nat} {ss' : List Int} (w : bU n k [] ss') {m : Nat} (hn : n = m) : (∀ x ∈ ss', 0 ≤ x ∧ x < (m : Int)) ∧ ss'.length ≤ k := by
 obtain ⟨tt, rfl, l, ht⟩ := w
 subst hn
 exact ⟨fun x hx => ht x (by simpa using hx), by simpa using l⟩
def uf : Sp := fun vs H Q E => ∃ (p : Addr) (ds : List Int), vs = [.ref p] ∧ H p = some (.lst (ds.map V.int)) ∧ ds.length ≤ 2048 ∧ bD ds ∧ ∀ r t ah nd bl lows S xs H', H bl = none → aY H H' → H' r = some (.tup [.ref t, .ref bl]) → KB H' t ah nd bl (brk ds 0) lows S xs → Q (.ref r) H'
theorem uM (T : Tx K mg a) : bj P w K mg base CX0 7 a.f_kept_tree a.fd_kept_tree ["depths"] uf := by
 refine T.D_kept_tree.F.ok ul (fun vs H Q E h => ?_) (fun cdv A outer s H vs Q E hr h => ?_)
 ·obtain ⟨p, ds, rfl, _⟩ := h
  rfl
 obtain ⟨p, ds, rfl, hp, hl, hg, q⟩ := h
 refine ⟨_, (aq (aB (aD T.D_kept_brackets (oA T) (by decide) hr aK rfl (aa (aD T.D_brackets_of (rn T) (by decide) hr aK rfl (aa (pv 0) ak)) ak)))), ?_⟩
 refine ⟨_, rfl, p, ds, rfl, hp, hg, hl, fun b H1 hb s1 xb => ?_⟩
 have hbl := jW hg
 exact ⟨b, brk ds 0, rfl, SqL.of xb, by omega, lr _ _, qO hg, fun r t ah nd bl lows S xs H2 h1 h2 h3 s2 xr kb => q r t ah nd bl lows S xs H2 (s1.free h1) (s1.trans s2) xr kb⟩
def rM : Sp := fun vs H Q _ => ∃ (t ah : Addr) (ns : List Int) (rest : List V), vs = [.ref t] ∧ Tab H t ah ns rest ∧ Q (.int ((ns.length : Int) / 2)) H
theorem rQ (T : Tx K mg a) : bj P w K mg base CX0 1 a.f_node_count a.fd_node_count ["tables"] rM := by
 refine T.D_node_count.F.ok rY (fun vs H Q E h => ?_) (fun cdv A outer s H vs Q E hr h => ?_)
 ·obtain ⟨t, ah, ns, rest, rfl, _⟩ := h
  rfl
 obtain ⟨t, ah, ns, rest, rfl, hT, q⟩ := h
 refine ⟨_, (aq (aB (az cg (aQ bC (pv 0) ao (fun _ _ => rfl)) ao))), ?_⟩
 exact ⟨_, rfl, t, _, _, _, rfl, rfl, SqT.of hT.tup, jT _ _ _ hT.few, _, _, rfl, rfl, ⟨by decide, by decide⟩, q⟩
def rK (C : Addr) : Sp := fun vs H Q E => ∃ (t ah : Addr) (ns : List Int) (rest : List V) (node : Int), vs = [.ref t, .int node] ∧ Tab H t ah ns rest ∧ ((0 ≤ node ∧ node < (ns.length : Int) / 2 ∧ Q .non H) ∨ ((node < 0 ∨ (ns.length : Int) / 2 ≤ node) ∧ E (.ref C) none H))
theorem j6 (T : Tx K mg a) : bj P w K mg base (CX1 P w) 2 a.f_check_node a.fd_check_node ["tables", "node"] (rK a.c_NoNode) := by
 refine T.D_check_node.F.ok1 rO (fun vs H Q E h => ?_) (fun cdv A outer s H vs Q E hr h => ?_)
 ·obtain ⟨t, ah, ns, rest, node, rfl, _⟩ := h
  rfl
 obtain ⟨t, ah, ns, rest, node, rfl, hT, h⟩ := h
 refine ⟨_, (aq (aW (PW.pt (pq (aL jg (pv 1) ao (aN _)) (lA (aL tZ (pv 1) (aD T.D_node_count (rQ T) (by decide) hr aK rfl (aa (pv 0) ak)) (aN _))))) (aq (Bw T.x_NoNode rfl (aa Fp ak))) aM)), ?_⟩
 refine ⟨_, rfl, _, _, rfl, rfl, _, rfl, aP (fun c => ?_) fun c => ?_⟩
 ·have c := of_decide_eq_true c
  rcases h with ⟨h0, _⟩ | ⟨_, q⟩
  ·omega
  ·exact dN ⟨(by show 1 ≤ sizeLine; decide), q⟩
 have c : ¬ node < 0 := fun z => c (decide_eq_true z)
 refine ⟨_, rfl, _, rfl, t, ah, ns, rest, rfl, hT, _, _, rfl, rfl, _, rfl, aP (fun c2 => ?_) fun c2 => ?_⟩
 ·have c2 := of_decide_eq_true c2
  rcases h with ⟨h0, h1, _⟩ | ⟨_, q⟩
  ·omega
  ·exact ⟨(by show 1 ≤ sizeLine; decide), q⟩
 have c2 : ¬ (ns.length : Int) / 2 ≤ node := fun z => c2 (decide_eq_true z)
 rcases h with ⟨_, _, q⟩ | ⟨z, _⟩
 ·exact q
 ·omega
structure Nd (H : Hp) (Ph : Addr) (p : BP) (ss ds : List Int) : Prop where
 b : Brk H Ph p ss
 few : ss.length ≤ 900
 eq : p.ns = brk ds 0
 good : bD ds
theorem Nd.sum {H : Hp} {Ph : Addr} {p : BP} {ss ds : List Int} (h : Nd H Ph p ss ds) : p.ns.sum = ds.length := by
 rw [h.eq]
 exact wU h.good
theorem Nd.len {H : Hp} {Ph : Addr} {p : BP} {ss ds : List Int} (h : Nd H Ph p ss ds) : p.ns.length = 2 * ds.length := by
 rw [h.eq]
 exact jW h.good
theorem Nd.tree {H : Hp} {Ph : Addr} {p : BP} {ss ds : List Int} (h : Nd H Ph p ss ds) : Tree p.ns := by
 rw [h.eq]
 exact qO h.good
theorem Nd.bits {H : Hp} {Ph : Addr} {p : BP} {ss ds : List Int} (h : Nd H Ph p ss ds) : bu p.ns := h.b.ask.bits
theorem Nd.did {H H' : Hp} {Ph : Addr} {p : BP} {ss ss' ds : List Int} {n k : Nat} (h : Nd H Ph p ss ds) (d : Did H H' Ph p.sn n k ss ss') (hl : ss'.length ≤ 900) : Nd H' Ph p ss' ds := ⟨h.b.did d (by omega), hl, h.eq, h.good⟩
theorem Nd.deep {H : Hp} {Ph : Addr} {p : BP} {ss ds : List Int} (h : Nd H Ph p ss ds) {i x : Nat} (h1 : p.ns[x]? = some 1) (h2 : (p.ns.take x).sum = (i : Int)) : ds[i]? = some (ht p.ns x) := by
 rw [h.eq] at h1 h2 ⊢
 exact Cz h.good h1 h2
theorem Nd.at {H : Hp} {Ph : Addr} {p : BP} {ss ds : List Int} (h : Nd H Ph p ss ds) {j : Nat} (hj : j < ds.length) : ∃ x, p.ns[x]? = some 1 ∧ (p.ns.take x).sum = (j : Int) := FJ h.bits (by rw [h.sum]; omega)
theorem Nd.nat {H : Hp} {Ph : Addr} {p : BP} {ss ds : List Int} (h : Nd H Ph p ss ds) (k : Nat) : ∃ i : Nat, (p.ns.take k).sum = (i : Int) := by
 have := b7 h.bits 0 k (Nat.zero_le _)
 rw [List.take_zero] at this
 have e : ([] : List Int).sum = 0 := rfl
 exact ⟨(p.ns.take k).sum.toNat, by omega⟩
theorem Nd.btw {H : Hp} {Ph : Addr} {p : BP} {ss ds : List Int} (h : Nd H Ph p ss ds) {k x i j : Nat} {g : Int} (hk : k ≤ x) (hi : (p.ns.take k).sum = (i : Int)) (hx : (p.ns.take x).sum = (j : Int)) (hall : ∀ q, k ≤ q → q < x → p.ns[q]? = some 1 → g < ht p.ns q) : ∀ m y, i ≤ m → m < j → ds[m]? = some y → g < y := fun m y m1 m2 ey => by
 have hm := (List.getElem?_eq_some_iff.mp ey).1
 obtain ⟨q, q1, q2⟩ := h.at hm
 have e := h.deep q1 q2
 rw [ey] at e
 rw [Option.some.inj e]
 refine hall q ?_ ?_ q1
 ·rcases Nat.lt_or_ge q k with z | z
  ·have := b7 h.bits (q + 1) k z
   rw [bV q1] at this
   omega
  ·exact z
 ·rcases Nat.lt_or_ge q x with z | z
  ·exact z
  ·have := b7 h.bits x q z
   omega
theorem Nd.up {H : Hp} {Ph : Addr} {p : BP} {ss ds : List Int} (h : Nd H Ph p ss ds) {k x i j : Nat} {g : Int} (hk : k ≤ x) (hk1 : p.ns[k]? = some 1) (hi : (p.ns.take k).sum = (i : Int)) (hg : ht p.ns k = g) (hx1 : p.ns[x]? = some 1) (hx : (p.ns.take x).sum = (j : Int)) (hall : ∀ q, k < q → q ≤ x → g < ht p.ns q) : UpN ds j g i := by
 have hm := b7 h.bits k x hk
 refine ⟨by omega, by rw [← hg]; exact h.deep hk1 hi, fun m y m1 m2 ey => ?_⟩
 have s1 := bV hk1
 have s2 := bV hx1
 have hkx : k < x := by
  rcases Nat.lt_or_ge k x with z | z
  ·exact z
  ·have : k = x := by omega
   subst this
   omega
 exact h.btw (k := k + 1) (x := x + 1) (i := i + 1) (j := j + 1) (by omega) (by omega) (by omega) (fun q q1 q2 _ => hall q (by omega) (by omega)) m y (by omega) (by omega) ey
theorem Nd.beneath {H : Hp} {Ph : Addr} {p : BP} {ss ds : List Int} (h : Nd H Ph p ss ds) {x c j : Nat} (hx1 : p.ns[x]? = some 1) (hx : (p.ns.take x).sum = (j : Int)) (pr : Pair p.ns x c) : ((c : Int) - x) / 2 = ((run ds (j + 1) (ht p.ns x) : Nat) : Int) ∧ (p.ns.take (c + 1)).sum = ((j + 1 + run ds (j + 1) (ht p.ns x) : Nat) : Int) := by
 have s1 := bV hx1
 have s2 := bV pr.nought
 have e : ht p.ns (c + 1) = ht p.ns x := pr.eq
 have lt := pr.lt
 have ltn := pr.ltn
 obtain ⟨n, hn⟩ := h.nat (c + 1)
 have hm := b7 h.bits (x + 1) (c + 1) (by omega)
 have heq : 2 * ((n : Int)) - ((c + 1 : Nat) : Int) = 2 * (j : Int) - (x : Int) := by
  have : ht p.ns (c + 1) = 2 * (p.ns.take (c + 1)).sum - ((c + 1 : Nat) : Int) := rfl
  have : ht p.ns x = 2 * (p.ns.take x).sum - ((x : Nat) : Int) := rfl
  omega
 have key : run ds (j + 1) (ht p.ns x) = n - (j + 1) := by
  refine lL _ _ (fun m hm => ?_) (fun y ey => ?_)
  ·have hml : j + 1 + m < ds.length := by
    have := b7 h.bits (c + 1) p.ns.length (by omega)
    rw [List.take_length, h.sum] at this
    omega
   have ey := List.getElem?_eq_getElem hml
   exact ⟨_, ey, h.btw (k := x + 1) (x := c + 1) (i := j + 1) (j := n) (by omega) (by omega) hn (fun q q1 q2 _ => pr.above q (by omega) (by omega)) (j + 1 + m) _ (by omega) (by omega) ey⟩
  ·obtain ⟨q, q1, q2⟩ := h.at (List.getElem?_eq_some_iff.mp ey).1
   have ed := h.deep q1 q2
   rw [ey] at ed
   have ed := Option.some.inj ed
   have hqc : c + 1 ≤ q := by
    rcases Nat.lt_or_ge q (c + 1) with z | z
    ·have := b7 h.bits (q + 1) (c + 1) z
     rw [bV q1] at this
     omega
    ·exact z
   have : ht p.ns q = 2 * (p.ns.take q).sum - ((q : Nat) : Int) := rfl
   have : ht p.ns x = 2 * (p.ns.take x).sum - ((x : Nat) : Int) := rfl
   omega
 rw [key]
 omega
def wu (Ph C : Addr) : Sp := fun vs H Q E => ∃ (p : BP) (ss ds : List Int) (node : Int), vs = [.ref p.t, .ref p.f, .int node] ∧ Nd H Ph p ss ds ∧ ((∃ j : Nat, node = (j : Int) ∧ j < ds.length ∧ ∀ (x : Nat) ss' H', p.ns[x]? = some 1 → (p.ns.take x).sum = (j : Int) → Did H H' Ph p.sn (many p.ns.length) 1 ss ss' → Q (.int (x : Int)) H') ∨ ((node < 0 ∨ (ds.length : Int) ≤ node) ∧ E (.ref C) none H))
theorem cA (T : Tx K mg a) : bj P w K mg base (CX1 P w) 5 a.f_place_of a.fd_place_of ["tables", "look", "node"] (wu a.tP_heap_look a.c_NoNode) := by
 refine T.D_place_of.F.ok1 u9 (fun vs H Q E h => ?_) (fun cdv A outer s H vs Q E hr h => ?_)
 ·obtain ⟨p, ss, ds, node, rfl, _⟩ := h
  rfl
 obtain ⟨p, ss, ds, node, rfl, hN, h⟩ := h
 refine ⟨_, (aj (bz (aD T.D_check_node (j6 T) (by decide) hr gO rfl (aa (pv 0) (aa (pv 2) ak))))
  (aq (aB (aD T.D_one_place (uA T) (by decide) hr aK rfl (aa (pv 0) (aa (pv 1) (aa (pv 2) ak))))))), ?_⟩
 have hsum := hN.sum
 have hlen := hN.len
 have few := hN.few
 refine ⟨_, rfl, _, rfl, p.t, p.ah, p.ns, _, node, rfl, hN.b.ask.tab, ?_⟩
 rcases h with ⟨j, rfl, hj, q⟩ | ⟨h1, q⟩
 ·exact .inl ⟨by omega, by omega, _, rfl, _, rfl, _, rfl, p.t, p.f, p.sn, p.bl, p.ah, p.ns, ss, [.ref p.nd], (j : Int), rfl, hN.b.ask, by omega, by omega, by omega, fun H1 x ss1 h1 h2 w1 s1 => q x ss1 H1 h1 h2 (hN.b.look w1 s1)⟩
 ·exact .inr ⟨by omega, q⟩
def yd (Ph : Addr) : Sp := fun vs H Q _ => ∃ (p : BP) (ss : List Int) (at0 : Nat), vs = [.ref p.t, .ref p.f, .int (at0 : Int)] ∧ Brk H Ph p ss ∧ ss.length ≤ 960 ∧ Tree p.ns ∧ ((p.ns[at0]? = some 1 ∧ ∀ ss' H', Did H H' Ph p.sn (many p.ns.length) 2 ss ss' → Q (.int (p.ns.take at0).sum) H') ∨ (p.ns[at0]? = some 0 ∧ ∀ (k : Nat) ss' H', oZ p.ns at0 (ht p.ns at0 - 1) k → Did H H' Ph p.sn (many p.ns.length) 6 ss ss' → Q (.int (p.ns.take k).sum) H'))
theorem lB (T : Tx K mg a) (B : Bs mg base a) : bj P w K mg base CX0 9 a.f_node_at a.fd_node_at ["tables", "look", "at"] (yd a.tP_heap_look) := by
 refine T.D_node_at.F.ok xV (fun vs H Q E h => ?_) (fun cdv A outer s H vs Q E hr h => ?_)
 ·obtain ⟨p, ss, at0, rfl, _⟩ := h
  rfl
 obtain ⟨p, ss, at0, rfl, hB, hl, tr, h⟩ := h
 refine ⟨_, (aj (aW (aL bY (aD T.D_bit_at (gY T) (by decide) hr aK rfl (aa (pv 0) (aa (pv 1) (aa (pv 2) ak)))) ao (aN _)) (aq (aB (aD T.D_ones_at (kE T) (by decide) hr aK rfl (aa (pv 0) (aa (pv 1) (aa (pv 2) ak)))))) aM)
  (aq (aB (aD T.D_ones_at (kE T) (by decide) hr aK rfl (aa (pv 0) (aa (pv 1) (aa (aD T.D_opening (xP T B) (by decide) hr aK rfl (aa (pv 0) (aa (pv 1) (aa (pv 2) ak)))) ak))))))), ?_⟩
 rcases h with ⟨hb, q⟩ | ⟨hb, q⟩
 ·have hat := (List.getElem?_eq_some_iff.mp hb).1
  refine ⟨_, rfl, _, rfl, _, rfl, p.t, p.f, p.sn, p.bl, p.ah, p.ns, ss, [.ref p.nd], at0, 1, rfl, hB.ask, by omega, hb, fun ss1 H1 w1 s1 => ?_⟩
  have d1 := hB.look w1 s1
  have l1 := w1.len
  have hB1 := hB.did d1 (by omega)
  refine ⟨rfl, _, rfl, aP (fun _ => ?_) fun z => absurd (by decide) z⟩
  exact ⟨_, rfl, _, rfl, _, rfl, p.t, p.f, p.sn, p.bl, p.ah, p.ns, ss1, [.ref p.nd], at0, rfl, hB1.ask, by omega, by omega, fun ss2 H2 w2 s2 => q ss2 H2 (d1.trans (hB1.look w2 s2))⟩
 ·have hat := (List.getElem?_eq_some_iff.mp hb).1
  refine ⟨_, rfl, _, rfl, _, rfl, p.t, p.f, p.sn, p.bl, p.ah, p.ns, ss, [.ref p.nd], at0, 0, rfl, hB.ask, by omega, hb, fun ss1 H1 w1 s1 => ?_⟩
  have d1 := hB.look w1 s1
  have l1 := w1.len
  have hB1 := hB.did d1 (by omega)
  refine ⟨rfl, _, rfl, aP (fun z => absurd z (by decide)) fun _ => ?_⟩
  refine ⟨_, rfl, _, rfl, _, rfl, _, rfl, _, rfl, p, ss1, at0, rfl, hB1, by omega, tr, hb, fun k ss2 H2 hk d2 => ?_⟩
  have l2 := d2.wr.len
  have hB2 := hB1.did d2 (by omega)
  have := hk.1
  exact ⟨p.t, p.f, p.sn, p.bl, p.ah, p.ns, ss2, [.ref p.nd], k, rfl, hB2.ask, by omega, by omega, fun ss3 H3 w3 s3 => q k ss3 H3 hk ((d1.trans d2).trans (hB2.look w3 s3))⟩
def UpV (ds : List Int) (j : Nat) (steps : Int) (x : V) : Prop := ∃ d, ds[j]? = some d ∧ ((x = .non ∧ d < steps) ∨ ∃ i : Nat, x = .int (i : Int) ∧ UpN ds j (d - steps) i)
def Cq (Ph C : Addr) : Sp := fun vs H Q E => ∃ (p : BP) (ss ds : List Int) (node steps : Int), vs = [.ref p.t, .ref p.f, .int node, .int steps] ∧ Nd H Ph p ss ds ∧
 ((∃ j : Nat, node = (j : Int) ∧ j < ds.length ∧ 0 ≤ steps ∧ ∀ x ss' H', UpV ds j steps x → Did H H' Ph p.sn (many p.ns.length) 7 ss ss' → Q x H') ∨ ((node < 0 ∨ ds.length ≤ node) ∧ E (.ref C) none H))
theorem qG (T : Tx K mg a) (B : Bs mg base a) : bj P w K mg base (CX1 P w) 10 a.f_up_of a.fd_up_of ["tables", "look", "node", "steps"] (Cq a.tP_heap_look a.c_NoNode) := by
 refine T.D_up_of.F.ok1 vO (fun vs H Q E h => ?_) (fun cdv A outer s H vs Q E hr h => ?_)
 ·obtain ⟨p, ss, ds, node, steps, rfl, _⟩ := h
  rfl
 obtain ⟨p, ss, ds, node, steps, rfl, hN, h⟩ := h
 refine ⟨_, (aj (aF (i := 4) vO.nd rfl (Or.inl rfl) (aD T.D_further_out (qy T B) (by decide) hr aK rfl (aa (pv 0) (aa (pv 1) (aa (aD T.D_place_of (cA T) (by decide) hr gO rfl (aa (pv 0) (aa (pv 1) (aa (pv 2) ak)))) (aa (pv 3) ak))))))
  (aj (aW (fV (iD (pv 4))) (aq (aB bW)) aM)
  (aq (aB (aD T.D_node_at (lB T B) (by decide) hr aK rfl (aa (pv 0) (aa (pv 1) (aa (pv 4) ak)))))))), ?_⟩
 have few := hN.few
 refine ⟨_, rfl, _, rfl, _, rfl, _, rfl, _, rfl, p, ss, ds, node, rfl, hN, ?_⟩
 rcases h with ⟨j, rfl, hj, hs0, q⟩ | ⟨hno, e⟩
 rotate_left
 ·exact .inr ⟨hno, e⟩
 refine .inl ⟨j, rfl, hj, fun x ss1 H1 hx1 hx2 d1 => ?_⟩
 have l1 := d1.wr.len
 have hB1 := hN.b.did d1 (by omega)
 have tr := hN.tree
 have hdj := hN.deep hx1 hx2
 have hxl := (List.getElem?_eq_some_iff.mp hx1).1
 refine ⟨_, rfl, p, ss1, x, steps, rfl, hB1, by omega, tr, hx1, fun v ss2 H2 hv d2 => ?_⟩
 have l2 := d2.wr.len
 have d12 := d1.trans d2
 have hB2 := hB1.did d2 (by omega)
 have fin : ∀ (k : Nat), k ≤ x → p.ns[k]? = some 1 → ht p.ns k = ht p.ns x - steps → (∀ i, k < i → i ≤ x → ht p.ns x - steps < ht p.ns i) → UpV ds j steps (.int (p.ns.take k).sum) := fun k k1 k2 k3 k4 => by
  obtain ⟨i, hi⟩ := hN.nat k
  exact ⟨_, hdj, .inr ⟨i, by rw [hi], hN.up k1 k2 hi k3 hx1 hx2 k4⟩⟩
 rcases hv with ⟨rfl, rfl⟩ | ⟨hst, ⟨rfl, hn⟩ | ⟨k, rfl, hk⟩⟩
 ·refine ⟨_, rfl, _, rfl, cW ?_⟩
  exact ⟨_, rfl, _, rfl, _, rfl, p, ss2, x, rfl, hB2, by omega, tr, .inl ⟨hx1, fun ss3 H3 d3 => q _ ss3 H3 (fin x (Nat.le_refl _) hx1 (by omega) (fun i i1 i2 => by omega)) (d12.trans d3)⟩⟩
 ·refine ⟨_, rfl, _, rfl, dN ?_⟩
  refine q _ ss2 H2 ⟨_, hdj, .inl ⟨rfl, ?_⟩⟩ (d12.le (by decide))
  rcases Nat.eq_zero_or_pos x with z | z
  ·subst z
   rw [dY]
   omega
  ·have := hn 0 z
   rw [dY] at this
   omega
 ·obtain ⟨o1, o2, o3⟩ := lR hN.bits (show ht p.ns x - steps < ht p.ns x by omega) (by omega) hk
  have hkx := hk.1
  refine ⟨_, rfl, _, rfl, cW ?_⟩
  exact ⟨_, rfl, _, rfl, _, rfl, p, ss2, k, rfl, hB2, by omega, tr, .inl ⟨o1, fun ss3 H3 d3 => q _ ss3 H3 (fin k (by omega) o1 o2 o3) (d12.trans d3)⟩⟩
def Ai (R : List Int → Nat → V → Prop) (k : Nat) (Ph C : Addr) : Sp := fun vs H Q E => ∃ (p : BP) (ss ds : List Int) (node : Int), vs = [.ref p.t, .ref p.f, .int node] ∧ Nd H Ph p ss ds ∧
 ((∃ j : Nat, node = (j : Int) ∧ j < ds.length ∧ ∀ x ss' H', R ds j x → Did H H' Ph p.sn (many p.ns.length) k ss ss' → Q x H') ∨ ((node < 0 ∨ (ds.length : Int) ≤ node) ∧ E (.ref C) none H))
def Gv (ds : List Int) (j : Nat) (x : V) : Prop := ∃ d, ds[j]? = some d ∧ x = .int d
theorem wB (T : Tx K mg a) : bj P w K mg base (CX1 P w) 6 a.f_depth_of a.fd_depth_of ["tables", "look", "node"] (Ai Gv 2 a.tP_heap_look a.c_NoNode) := by
 refine T.D_depth_of.F.ok1 v6 (fun vs H Q E h => ?_) (fun cdv A outer s H vs Q E hr h => ?_)
 ·obtain ⟨p, ss, ds, node, rfl, _⟩ := h
  rfl
 obtain ⟨p, ss, ds, node, rfl, hN, h⟩ := h
 refine ⟨_, (aq (aB (aD T.D_height (gR T) (by decide) hr aK rfl (aa (pv 0) (aa (pv 1) (aa (aD T.D_place_of (cA T) (by decide) hr gO rfl (aa (pv 0) (aa (pv 1) (aa (pv 2) ak)))) ak)))))), ?_⟩
 have few := hN.few
 refine ⟨_, rfl, _, rfl, _, rfl, _, rfl, _, rfl, p, ss, ds, node, rfl, hN, ?_⟩
 rcases h with ⟨j, rfl, hj, q⟩ | ⟨hno, e⟩
 rotate_left
 ·exact .inr ⟨hno, e⟩
 refine .inl ⟨j, rfl, hj, fun x ss1 H1 hx1 hx2 d1 => ?_⟩
 have l1 := d1.wr.len
 have hB1 := hN.b.did d1 (by omega)
 have hxl := (List.getElem?_eq_some_iff.mp hx1).1
 exact ⟨p.t, p.f, p.sn, p.bl, p.ah, p.ns, ss1, [.ref p.nd], x, rfl, hB1.ask, by omega, by omega, fun ss2 H2 w2 s2 => q _ ss2 H2 ⟨_, hN.deep hx1 hx2, rfl⟩ (d1.trans (hB1.look w2 s2))⟩
def Ez (ds : List Int) (j : Nat) (x : V) : Prop := UpV ds j 1 x
theorem vL (T : Tx K mg a) (B : Bs mg base a) : bj P w K mg base (CX1 P w) 11 a.f_elder_of a.fd_elder_of ["tables", "look", "node"] (Ai Ez 7 a.tP_heap_look a.c_NoNode) := by
 refine T.D_elder_of.F.ok1 wQ (fun vs H Q E h => ?_) (fun cdv A outer s H vs Q E hr h => ?_)
 ·obtain ⟨p, ss, ds, node, rfl, _⟩ := h
  rfl
 obtain ⟨p, ss, ds, node, rfl, hN, h⟩ := h
 refine ⟨_, (aq (aB (aD T.D_up_of (qG T B) (by decide) hr gO rfl (aa (pv 0) (aa (pv 1) (aa (pv 2) (aa ao ak))))))), ?_⟩
 refine ⟨_, rfl, _, rfl, _, rfl, p, ss, ds, node, 1, rfl, hN, ?_⟩
 rcases h with ⟨j, rfl, hj, q⟩ | ⟨hno, e⟩
 ·exact .inl ⟨j, rfl, hj, by omega, q⟩
 ·exact .inr ⟨hno, e⟩
def GR (ds : List Int) (j : Nat) (x : V) : Prop := ∃ d, ds[j]? = some d ∧ x = .int ((run ds (j + 1) d : Nat) : Int)
theorem j7 (T : Tx K mg a) (B : Bs mg base a) : bj P w K mg base (CX1 P w) 8 a.f_beneath_of a.fd_beneath_of ["tables", "look", "node"] (Ai GR 5 a.tP_heap_look a.c_NoNode) := by
 refine T.D_beneath_of.F.ok1 j0 (fun vs H Q E h => ?_) (fun cdv A outer s H vs Q E hr h => ?_)
 ·obtain ⟨p, ss, ds, node, rfl, _⟩ := h
  rfl
 obtain ⟨p, ss, ds, node, rfl, hN, h⟩ := h
 refine ⟨_, (aj (aF (i := 3) j0.nd rfl (Or.inl rfl) (aD T.D_place_of (cA T) (by decide) hr gO rfl (aa (pv 0) (aa (pv 1) (aa (pv 2) ak)))))
  (aq (aB (az cg (az bx (aD T.D_closing (qY T B) (by decide) hr aK rfl (aa (pv 0) (aa (pv 1) (aa (pv 3) ak)))) (pv 3)) ao)))), ?_⟩
 have few := hN.few
 refine ⟨_, rfl, _, rfl, _, rfl, p, ss, ds, node, rfl, hN, ?_⟩
 rcases h with ⟨j, rfl, hj, q⟩ | ⟨hno, e⟩
 rotate_left
 ·exact .inr ⟨hno, e⟩
 refine .inl ⟨j, rfl, hj, fun x ss1 H1 hx1 hx2 d1 => ?_⟩
 have l1 := d1.wr.len
 have hB1 := hN.b.did d1 (by omega)
 refine ⟨_, rfl, _, rfl, _, rfl, p, ss1, x, rfl, hB1, by omega, hN.tree, hx1, fun c ss2 H2 hc d2 => ?_⟩
 have pr := mK hN.bits hx1 hc
 refine ⟨_, rfl, _, _, rfl, rfl, _, _, rfl, rfl, ⟨by decide, by decide⟩, q _ ss2 H2 ⟨_, hN.deep hx1 hx2, ?_⟩ (d1.trans d2)⟩
 exact congrArg V.int (hN.beneath hx1 hx2 pr).1
def zq (ds : List Int) (j : Nat) (x : V) : Prop := ∃ d, ds[j]? = some d ∧ ((x = .int ((j : Int) + 1) ∧ ds[j + 1]? = some (d + 1)) ∨ (x = .non ∧ ds[j + 1]? ≠ some (d + 1)))
theorem v5 (T : Tx K mg a) : bj P w K mg base (CX1 P w) 6 a.f_first_of a.fd_first_of ["tables", "look", "node"] (Ai zq 2 a.tP_heap_look a.c_NoNode) := by
 refine T.D_first_of.F.ok1 pG (fun vs H Q E h => ?_) (fun cdv A outer s H vs Q E hr h => ?_)
 ·obtain ⟨p, ss, ds, node, rfl, _⟩ := h
  rfl
 obtain ⟨p, ss, ds, node, rfl, hN, h⟩ := h
 refine ⟨_, (aj (aF (i := 3) pG.nd rfl (Or.inl rfl) (az aV (aD T.D_place_of (cA T) (by decide) hr gO rfl (aa (pv 0) (aa (pv 1) (aa (pv 2) ak)))) ao))
  (aj (aW (aL bY (aD T.D_bit_at (gY T) (by decide) hr aK rfl (aa (pv 0) (aa (pv 1) (aa (pv 3) ak)))) ao (aN _)) (aq (aB bW)) aM)
  (aq (aB (az aV (pv 2) ao))))), ?_⟩
 have few := hN.few
 refine ⟨_, rfl, _, rfl, _, rfl, p, ss, ds, node, rfl, hN, ?_⟩
 rcases h with ⟨j, rfl, hj, q⟩ | ⟨hno, e⟩
 rotate_left
 ·exact .inr ⟨hno, e⟩
 refine .inl ⟨j, rfl, hj, fun x ss1 H1 hx1 hx2 d1 => ?_⟩
 have l1 := d1.wr.len
 have hB1 := hN.b.did d1 (by omega)
 have hxl := (List.getElem?_eq_some_iff.mp hx1).1
 have hdj := hN.deep hx1 hx2
 have hh := dB hx1
 have hd0 := cR hN.good hdj
 obtain ⟨_, te, _⟩ := hN.tree
 have hxl' : x + 1 < p.ns.length := by
  rcases Nat.lt_or_ge (x + 1) p.ns.length with z | z
  ·exact z
  ·have : x + 1 = p.ns.length := by omega
   rw [this, te] at hh
   omega
 have s1 := bV hx1
 refine ⟨_, _, rfl, rfl, _, rfl, _, rfl, _, rfl, ?_⟩
 obtain ⟨b, hb⟩ : ∃ b, p.ns[x + 1]? = some b := ⟨_, List.getElem?_eq_getElem hxl'⟩
 refine ⟨p.t, p.f, p.sn, p.bl, p.ah, p.ns, ss1, [.ref p.nd], x + 1, b, rfl, hB1.ask, by omega, hb, fun ss2 H2 w2 s2 => ⟨rfl, _, rfl, ?_⟩⟩
 have d2 := d1.trans (hB1.look w2 s2)
 rcases hN.bits b (List.mem_of_getElem? hb) with rfl | rfl
 ·refine dN (q _ ss2 H2 ⟨_, hdj, .inr ⟨rfl, fun z => ?_⟩⟩ d2)
  obtain ⟨r, r1, r2⟩ := hN.at (List.getElem?_eq_some_iff.mp z).1
  have e := hN.deep r1 r2
  rw [z] at e
  have e := Option.some.inj e
  have e1 : ht p.ns r = 2 * (p.ns.take r).sum - ((r : Nat) : Int) := rfl
  have e2 : ht p.ns x = 2 * (p.ns.take x).sum - ((x : Nat) : Int) := rfl
  have : r = x + 1 := by omega
  subst this
  rw [hb] at r1
  cases r1
 ·refine cW ⟨_, rfl, _, _, rfl, rfl, q _ ss2 H2 ⟨_, hdj, .inl ⟨rfl, ?_⟩⟩ d2⟩
  have := hN.deep (i := j + 1) hb (by omega)
  rw [hh, show ht p.ns x + 2 * 1 - 1 = ht p.ns x + 1 from by omega] at this
  exact this
def YoV (ds : List Int) (j : Nat) (x : V) : Prop := ∃ d, ds[j]? = some d ∧ ((x = .int ((j + 1 + run ds (j + 1) d : Nat) : Int) ∧ ds[j + 1 + run ds (j + 1) d]? = some d) ∨ (x = .non ∧ ds[j + 1 + run ds (j + 1) d]? ≠ some d))
theorem rT (T : Tx K mg a) (B : Bs mg base a) : bj P w K mg base (CX1 P w) 10 a.f_younger_of a.fd_younger_of ["tables", "look", "node"] (Ai YoV 8 a.tP_heap_look a.c_NoNode) := by
 refine T.D_younger_of.F.ok1 j8 (fun vs H Q E h => ?_) (fun cdv A outer s H vs Q E hr h => ?_)
 ·obtain ⟨p, ss, ds, node, rfl, _⟩ := h
  rfl
 obtain ⟨p, ss, ds, node, rfl, hN, h⟩ := h
 refine ⟨_, (aj (aF (i := 3) j8.nd rfl (Or.inl rfl) (az aV (aD T.D_closing (qY T B) (by decide) hr aK rfl (aa (pv 0) (aa (pv 1) (aa (aD T.D_place_of (cA T) (by decide) hr gO rfl (aa (pv 0) (aa (pv 1) (aa (pv 2) ak)))) ak)))) ao))
  (aj (aW (PW.pt (pq (aL bY (pv 3) (aQ bC (pv 0) ao (fun _ _ => rfl)) (aN _)) (lA (aL bY (aD T.D_bit_at (gY T) (by decide) hr aK rfl (aa (pv 0) (aa (pv 1) (aa (pv 3) ak)))) ao (aN _))))) (aq (aB bW)) aM)
  (aq (aB (aD T.D_node_at (lB T B) (by decide) hr aK rfl (aa (pv 0) (aa (pv 1) (aa (pv 3) ak)))))))), ?_⟩
 have few := hN.few
 refine ⟨_, rfl, _, rfl, _, rfl, _, rfl, _, rfl, p, ss, ds, node, rfl, hN, ?_⟩
 rcases h with ⟨j, rfl, hj, q⟩ | ⟨hno, e⟩
 rotate_left
 ·exact .inr ⟨hno, e⟩
 refine .inl ⟨j, rfl, hj, fun x ss1 H1 hx1 hx2 d1 => ?_⟩
 have l1 := d1.wr.len
 have hB1 := hN.b.did d1 (by omega)
 have hdj := hN.deep hx1 hx2
 refine ⟨p, ss1, x, rfl, hB1, by omega, hN.tree, hx1, fun c ss2 H2 hc d2 => ?_⟩
 have pr := mK hN.bits hx1 hc
 have l2 := d2.wr.len
 have hB2 := hB1.did d2 (by omega)
 have d12 := d1.trans d2
 obtain ⟨_, sc⟩ := hN.beneath hx1 hx2 pr
 have ec := pr.eq
 have ltn := pr.ltn
 have not1 : p.ns[c + 1]? ≠ some 1 → ds[j + 1 + run ds (j + 1) (ht p.ns x)]? ≠ some (ht p.ns x) := fun n1 z => by
  obtain ⟨r, r1, r2⟩ := hN.at (List.getElem?_eq_some_iff.mp z).1
  have e := hN.deep r1 r2
  rw [z] at e
  have e := Option.some.inj e
  have e1 : ht p.ns r = 2 * (p.ns.take r).sum - ((r : Nat) : Int) := rfl
  have e2 : ht p.ns (c + 1) = 2 * (p.ns.take (c + 1)).sum - ((c + 1 : Nat) : Int) := rfl
  have : r = c + 1 := by omega
  subst this
  exact n1 r1
 refine ⟨_, _, rfl, rfl, _, rfl, _, rfl, p.t, _, _, _, rfl, rfl, SqT.of hB2.ask.tab.tup, jT _ _ _ hB2.ask.tab.few, rfl, _, rfl, ?_⟩
 by_cases hce : c + 1 = p.ns.length
 ·rw [decide_eq_true (show V.int ((c : Int) + 1) = V.int (p.ns.length : Int) from congrArg V.int (by omega))]
  refine dN (dN (q _ ss2 H2 ⟨_, hdj, .inr ⟨rfl, not1 (by rw [hce, List.getElem?_eq_none (Nat.le_refl _)]; exact nofun)⟩⟩ (d12.le (by decide))))
 rw [decide_eq_false (show ¬ V.int ((c : Int) + 1) = V.int (p.ns.length : Int) from fun z => hce (by have := V.int.inj z; omega))]
 obtain ⟨b, hb⟩ : ∃ b, p.ns[c + 1]? = some b := ⟨_, List.getElem?_eq_getElem (by omega)⟩
 refine cW ⟨_, rfl, _, rfl, _, rfl, p.t, p.f, p.sn, p.bl, p.ah, p.ns, ss2, [.ref p.nd], c + 1, b, rfl, hB2.ask, by omega, hb, fun ss3 H3 w3 s3 => ⟨rfl, _, rfl, ?_⟩⟩
 have d3 := hB2.look w3 s3
 have l3 := d3.wr.len
 have hB3 := hB2.did d3 (by omega)
 rcases hN.bits b (List.mem_of_getElem? hb) with rfl | rfl
 ·exact dN (q _ ss3 H3 ⟨_, hdj, .inr ⟨rfl, not1 (by rw [hb]; exact nofun)⟩⟩ ((d12.trans d3).le (by decide)))
 ·refine cW ⟨_, rfl, _, rfl, _, rfl, p, ss3, c + 1, rfl, hB3, by omega, hN.tree, .inl ⟨hb, fun ss4 H4 d4 => q _ ss4 H4 ⟨_, hdj, .inl ⟨by rw [sc], ?_⟩⟩ ((d12.trans d3).trans d4)⟩⟩
  rw [← ec]
  rw [← ec] at sc
  exact hN.deep hb sc
def OlV (ds : List Int) (j : Nat) (x : V) : Prop := ∃ d, ds[j]? = some d ∧ ((∃ i : Nat, x = .int (i : Int) ∧ i < j ∧ ds[i]? = some d ∧ ∀ m y, i < m → m < j → ds[m]? = some y → d < y) ∨ (x = .non ∧ ∀ i, i < j → ds[i]? = some d → ∃ m y, i < m ∧ m < j ∧ ds[m]? = some y ∧ y < d))
theorem wz (T : Tx K mg a) (B : Bs mg base a) : bj P w K mg base (CX1 P w) 10 a.f_older_of a.fd_older_of ["tables", "look", "node"] (Ai OlV 8 a.tP_heap_look a.c_NoNode) := by
 refine T.D_older_of.F.ok1 o5 (fun vs H Q E h => ?_) (fun cdv A outer s H vs Q E hr h => ?_)
 ·obtain ⟨p, ss, ds, node, rfl, _⟩ := h
  rfl
 obtain ⟨p, ss, ds, node, rfl, hN, h⟩ := h
 refine ⟨_, (aj (aF (i := 3) o5.nd rfl (Or.inl rfl) (az bx (aD T.D_place_of (cA T) (by decide) hr gO rfl (aa (pv 0) (aa (pv 1) (aa (pv 2) ak)))) ao))
  (aj (aW (PW.pt (pq (aL jg (pv 3) ao (aN _)) (lA (aL bY (aD T.D_bit_at (gY T) (by decide) hr aK rfl (aa (pv 0) (aa (pv 1) (aa (pv 3) ak)))) ao (aN _))))) (aq (aB bW)) aM)
  (aq (aB (aD T.D_node_at (lB T B) (by decide) hr aK rfl (aa (pv 0) (aa (pv 1) (aa (pv 3) ak)))))))), ?_⟩
 have few := hN.few
 refine ⟨_, rfl, _, rfl, _, rfl, p, ss, ds, node, rfl, hN, ?_⟩
 rcases h with ⟨j, rfl, hj, q⟩ | ⟨hno, e⟩
 rotate_left
 ·exact .inr ⟨hno, e⟩
 refine .inl ⟨j, rfl, hj, fun x ss1 H1 hx1 hx2 d1 => ?_⟩
 have l1 := d1.wr.len
 have hB1 := hN.b.did d1 (by omega)
 have hdj := hN.deep hx1 hx2
 have hxl := (List.getElem?_eq_some_iff.mp hx1).1
 refine ⟨_, _, rfl, rfl, _, rfl, _, _, rfl, rfl, _, rfl, ?_⟩
 rcases Nat.eq_zero_or_pos x with z | z
 ·subst z
  rw [decide_eq_true (show ((0 : Nat) : Int) - 1 < 0 by omega)]
  refine dN (dN (q _ ss1 H1 ⟨_, hdj, .inr ⟨rfl, fun i hi => ?_⟩⟩ (d1.le (by decide))))
  rw [List.take_zero] at hx2
  have : ([] : List Int).sum = 0 := rfl
  omega
 obtain ⟨y, rfl⟩ : ∃ y, x = y + 1 := ⟨x - 1, by omega⟩
 rw [decide_eq_false (show ¬ ((y + 1 : Nat) : Int) - 1 < 0 by omega)]
 obtain ⟨b, hb⟩ : ∃ b, p.ns[y]? = some b := ⟨_, List.getElem?_eq_getElem (by omega)⟩
 have ey : V.int (((y + 1 : Nat) : Int) - 1) = V.int (y : Int) := congrArg V.int (by omega)
 refine cW ⟨_, rfl, _, rfl, _, rfl, p.t, p.f, p.sn, p.bl, p.ah, p.ns, ss1, [.ref p.nd], y, b, congrArg (fun v => [V.ref p.t, V.ref p.f, v]) ey, hB1.ask, by omega, hb, fun ss3 H3 w3 s3 => ⟨rfl, _, rfl, ?_⟩⟩
 have d3 := hB1.look w3 s3
 have l3 := d3.wr.len
 have hB3 := hB1.did d3 (by omega)
 have sy := bV hb
 have hy := dB hb
 rcases hN.bits b (List.mem_of_getElem? hb) with rfl | rfl
 ·refine cW ⟨_, rfl, _, rfl, _, rfl, p, ss3, y, congrArg (fun v => [V.ref p.t, V.ref p.f, v]) ey, hB3, by omega, hN.tree, .inr ⟨hb, fun k ss4 H4 hk d4 => q _ ss4 H4 ⟨_, hdj, .inl ?_⟩ ((d1.trans d3).trans d4)⟩⟩
  obtain ⟨i, hi⟩ := hN.nat k
  have pr := uv hN.bits hb hk
  have hk1 := pr.one
  have lt := pr.lt
  have ek := pr.eq
  have hm := b7 hN.bits (k + 1) (y + 1) (by omega)
  rw [bV hk1] at hm
  refine ⟨i, by rw [hi], by omega, ?_, fun m u m1 m2 em => ?_⟩
  ·rw [ek]
   exact hN.deep hk1 hi
  ·rw [ek]
   exact hN.btw (k := k + 1) (x := y + 1) (i := i + 1) (j := j) (by omega) (by rw [bV hk1]; omega) hx2 (fun r r1 r2 _ => pr.above r (by omega) (by omega)) m u (by omega) m2 em
 ·refine dN (q _ ss3 H3 ⟨_, hdj, .inr ⟨rfl, fun i hi ei => ?_⟩⟩ ((d1.trans d3).le (by decide)))
  have hd1 := hN.deep (i := j - 1) hb (by omega)
  refine ⟨j - 1, _, ?_, by omega, hd1, by omega⟩
  rcases Nat.lt_or_ge i (j - 1) with z | z
  ·exact z
  ·have : i = j - 1 := by omega
   subst this
   rw [ei] at hd1
   have := Option.some.inj hd1
   omega
def CG (ds : List Int) (i j : Nat) (x : V) : Prop := ∃ d, ds[i]? = some d ∧ ((UpN ds j d i ∧ x = .bl true) ∨ (¬ UpN ds j d i ∧ x = .bl false))
def Ec (R : List Int → Nat → Nat → V → Prop) (k : Nat) (Ph C : Addr) : Sp := fun vs H Q E => ∃ (p : BP) (ss ds : List Int) (one other : Int), vs = [.ref p.t, .ref p.f, .int one, .int other] ∧ Nd H Ph p ss ds ∧ ss.length ≤ 880 ∧
 ((∃ i j : Nat, one = (i : Int) ∧ other = (j : Int) ∧ i < ds.length ∧ j < ds.length ∧ ∀ x ss' H', R ds i j x → Did H H' Ph p.sn (many p.ns.length) k ss ss' → Q x H') ∨ (((one < 0 ∨ (ds.length : Int) ≤ one) ∨ (other < 0 ∨ (ds.length : Int) ≤ other)) ∧ ∀ ss' H', Did H H' Ph p.sn (many p.ns.length) k ss ss' → E (.ref C) none H'))
theorem xM (T : Tx K mg a) (B : Bs mg base a) : bj P w K mg base (CX1 P w) 9 a.f_is_over a.fd_is_over ["tables", "look", "one", "other"] (Ec CG 5 a.tP_heap_look a.c_NoNode) := by
 refine T.D_is_over.F.ok1 qP (fun vs H Q E h => ?_) (fun cdv A outer s H vs Q E hr h => ?_)
 ·obtain ⟨p, ss, ds, one, other, rfl, _⟩ := h
  rfl
 obtain ⟨p, ss, ds, one, other, rfl, hN, h88, h⟩ := h
 refine ⟨_, (aj (bz (aD T.D_check_node (j6 T) (by decide) hr gO rfl (aa (pv 0) (aa (pv 3) ak))))
  (aj (aF (i := 4) qP.nd rfl (Or.inl rfl) (az aV (pv 2) (aD T.D_beneath_of (j7 T B) (by decide) hr gO rfl (aa (pv 0) (aa (pv 1) (aa (pv 2) ak))))))
  (aq (aB (vV di di (pv 2) (pv 3) (pv 4)))))), ?_⟩
 have hlen := hN.len
 have d0 := (hN.b.self (many p.ns.length)).le (k := 5) (by decide)
 refine ⟨_, rfl, _, rfl, p.t, p.ah, p.ns, _, other, rfl, hN.b.ask.tab, ?_⟩
 rcases h with ⟨i, j, rfl, rfl, hi, hj, q⟩ | ⟨hno, e⟩
 rotate_left
 ·by_cases ho : other < 0 ∨ (ds.length : Int) ≤ other
  ·exact .inr ⟨by omega, e _ _ d0⟩
  ·exact .inl ⟨by omega, by omega, _, rfl, _, rfl, _, rfl, _, rfl, p, ss, ds, one, rfl, hN, .inr ⟨by omega, e _ _ d0⟩⟩
 refine .inl ⟨by omega, by omega, _, rfl, _, rfl, _, rfl, _, rfl, p, ss, ds, (i : Int), rfl, hN, .inl ⟨i, rfl, hi, fun x ss1 H1 hx d1 => ?_⟩⟩
 obtain ⟨d, hd, rfl⟩ := hx
 have ov := qM (ds := ds) hd hj
 refine ⟨_, _, rfl, rfl, _, rfl, _, rfl, _, _, rfl, rfl, _, rfl, aP (fun c => ?_) fun c => ?_⟩
 ·have c := of_decide_eq_true c
  refine ⟨_, rfl, _, _, rfl, rfl, q _ ss1 H1 ⟨d, hd, ?_⟩ d1⟩
  by_cases c2 : (j : Int) ≤ (i : Int) + ((run ds (i + 1) d : Nat) : Int)
  ·exact .inl ⟨ov.mpr ⟨by omega, by omega⟩, congrArg V.bl (decide_eq_true c2)⟩
  ·exact .inr ⟨fun z => by have := ov.mp z; omega, congrArg V.bl (decide_eq_false c2)⟩
 ·have c : ¬ (i : Int) ≤ (j : Int) := fun z => c (decide_eq_true z)
  exact q _ ss1 H1 ⟨d, hd, .inr ⟨fun z => by have := ov.mp z; omega, rfl⟩⟩ d1
theorem wy {ns : List Int} (hb : bu ns) {y : Nat} (hy : ns[y]? = some 1) : ∀ (n k : Nat), k + n = y → ∃ q, k ≤ q ∧ q ≤ y ∧ ns[q]? = some 1 ∧ ht ns q ≤ ht ns k
 | 0, k, e => ⟨k, Nat.le_refl _, by omega, by rw [show k = y from by omega]; exact hy, Int.le_refl _⟩
 | n + 1, k, e => by
  have hl := (List.getElem?_eq_some_iff.mp hy).1
  rcases yg hb (show k < ns.length by omega) with ⟨z1, _⟩ | ⟨_, z2⟩
  ·exact ⟨k, Nat.le_refl _, by omega, z1, Int.le_refl _⟩
  ·obtain ⟨q, q1, q2, q3, q4⟩ := wy hb hy n (k + 1) (by omega)
   exact ⟨q, by omega, q2, q3, by omega⟩
theorem Nd.above {H : Hp} {Ph : Addr} {p : BP} {ss ds : List Int} (h : Nd H Ph p ss ds) {z y i j : Nat} {g : Int} (hz1 : p.ns[z]? = some 1) (hz : (p.ns.take z).sum = (i : Int)) (hy1 : p.ns[y]? = some 1) (hy : (p.ns.take y).sum = (j : Int)) (u : UpN ds j g i) : ∀ k, z < k → k ≤ y + 1 → g < ht p.ns k := by
 have low : ∀ q, z < q → q ≤ y → p.ns[q]? = some 1 → g < ht p.ns q := fun q q1 q2 q3 => by
  obtain ⟨m, hm⟩ := h.nat q
  have s1 := b7 h.bits (z + 1) q q1
  rw [bV hz1] at s1
  have s2 := b7 h.bits q y q2
  exact u.2.2 m _ (by omega) (by omega) (h.deep q3 hm)
 have hg : ht p.ns z = g := by
  have := h.deep hz1 hz
  rw [u.2.1] at this
  exact (Option.some.inj this).symm
 intro k k1 k2
 rcases Nat.lt_or_ge k (y + 1) with c | c
 ·obtain ⟨q, q1, q2, q3, q4⟩ := wy h.bits hy1 (y - k) k (by omega)
  have := low q (by omega) q2 q3
  omega
 ·have : k = y + 1 := by omega
  subst this
  have e := dB hy1
  rcases Nat.lt_or_ge z y with c2 | c2
  ·have := low y c2 (Nat.le_refl _) hy1
   omega
  ·have : z = y := by omega
   subst this
   omega
def zV (ds : List Int) (i j : Nat) (x : V) : Prop := ∃ (f : Nat) (g : Int), x = .int (f : Int) ∧ UpN ds i g f ∧ UpN ds j g f ∧ ∀ (y : Nat) (gy : Int), g < gy → UpN ds i gy y → UpN ds j gy y → False
theorem zV.swap {ds : List Int} {i j : Nat} {x : V} (h : zV ds i j x) : zV ds j i x := by
 obtain ⟨f, g, e, h1, h2, h3⟩ := h
 exact ⟨f, g, e, h2, h1, fun y gy a b c => h3 y gy a c b⟩
theorem uo (T : Tx K mg a) (B : Bs mg base a) : bj P w K mg base (CX1 P w) 11 a.f_common_of a.fd_common_of ["tables", "look", "one", "other"] (Ec zV 12 a.tP_heap_look a.c_NoNode) := by
 refine T.D_common_of.F.ok1 dM (fun vs H Q E h => ?_) (fun cdv A outer s H vs Q E hr h => ?_)
 ·obtain ⟨p, ss, ds, one, other, rfl, _⟩ := h
  rfl
 obtain ⟨p, ss, ds, one, other, rfl, hN, h88, h⟩ := h
 refine ⟨_, (aj (aF (i := 4) dM.nd rfl (Or.inl rfl) (uK (aU (jV rfl) rfl T.b_min Tw.jE (aa (pv 2) (aa (pv 3) ak)))))
  (aj (aF (i := 5) dM.nd rfl (Or.inl rfl) (aD T.D_place_of (cA T) (by decide) hr gO rfl (aa (pv 0) (aa (pv 1) (aa (pv 4) ak)))))
  (aj (aF (i := 6) dM.nd rfl (Or.inl rfl) (aD T.D_place_of (cA T) (by decide) hr gO rfl (aa (pv 0) (aa (pv 1) (aa (aU (t8 rfl) rfl T.b_max Tw.Bx (aa (pv 2) (aa (pv 3) ak))) ak)))))
  (aj (aF (i := 7) dM.nd rfl (Or.inl rfl) (az bx (aD T.D_lowest (zA T B) (by decide) hr aK rfl (aa (pv 0) (aa (pv 1) (aa (pv 5) (aa (az aV (pv 6) ao) ak))))) ao))
  (aq (aB (aD T.D_up_of (qG T B) (by decide) hr gO rfl (aa (pv 0) (aa (pv 1) (aa (pv 4) (aa (az bx (aD T.D_height (gR T) (by decide) hr aK rfl (aa (pv 0) (aa (pv 1) (aa (pv 5) ak)))) (pv 7)) ak))))))))))), ?_⟩
 have few := hN.few
 have d0 := (hN.b.self (many p.ns.length)).le (k := 12) (by decide)
 refine ⟨fun v X => X = H ∧ v = .int (if other < one then other else one), ⟨_, rfl, _, rfl, _, _, rfl, rfl, rfl⟩, ?_⟩
 rintro v X ⟨rfl, rfl⟩
 refine ⟨_, rfl, _, rfl, _, rfl, p, ss, ds, _, rfl, hN, ?_⟩
 by_cases hlo : (if other < one then other else one) < 0 ∨ (ds.length : Int) ≤ (if other < one then other else one)
 ·refine .inr ⟨hlo, ?_⟩
  rcases h with ⟨i, j, rfl, rfl, hi, hj, q⟩ | ⟨hno, e⟩
  ·split at hlo <;> omega
  ·exact e _ _ d0
 obtain ⟨a1, ea, ha⟩ : ∃ a1 : Nat, (if other < one then other else one) = (a1 : Int) ∧ a1 < ds.length := ⟨(if other < one then other else one).toNat, by omega, by omega⟩
 refine .inl ⟨a1, ea, ha, fun x ss1 H1 hx1 hx2 d1 => ?_⟩
 have l1 := d1.wr.len
 have hN1 := hN.did d1 (by omega)
 refine ⟨_, rfl, _, rfl, _, rfl, _, rfl, _, _, rfl, p, ss1, ds, _, rfl, hN1, ?_⟩
 by_cases hhi : (if one < other then other else one) < 0 ∨ (ds.length : Int) ≤ (if one < other then other else one)
 ·refine .inr ⟨hhi, ?_⟩
  rcases h with ⟨i, j, rfl, rfl, hi, hj, q⟩ | ⟨hno, e⟩
  ·split at hhi <;> omega
  ·exact e _ _ (d1.le (by decide))
 obtain ⟨b1, eb, hb⟩ : ∃ b1 : Nat, (if one < other then other else one) = (b1 : Int) ∧ b1 < ds.length := ⟨(if one < other then other else one).toNat, by omega, by omega⟩
 rcases h with ⟨i, j, rfl, rfl, hi, hj, q⟩ | ⟨hno, e⟩
 rotate_left
 ·exfalso
  split at ea <;> split at eb <;> omega
 refine .inl ⟨b1, eb, hb, fun y ss2 H2 hy1 hy2 d2 => ?_⟩
 have l2 := d2.wr.len
 have d12 := d1.trans d2
 have hN2 := hN1.did d2 (by omega)
 have hab : a1 ≤ b1 ∧ ((a1 = i ∧ b1 = j) ∨ (a1 = j ∧ b1 = i)) := by
  split at ea <;> split at eb <;> omega
 have hxy : x ≤ y := by
  rcases Nat.lt_or_ge y x with z | z
  ·have := b7 hN.bits (y + 1) x z
   rw [bV hy1] at this
   omega
  ·exact z
 have hyl := (List.getElem?_eq_some_iff.mp hy1).1
 have hdx := hN.deep hx1 hx2
 refine ⟨_, rfl, _, rfl, _, rfl, _, rfl, _, _, rfl, rfl, p, ss2, x, y + 1, rfl, hN2.b, by omega, by omega, by omega, fun m ss3 H3 hm d3 => ?_⟩
 have l3 := d3.wr.len
 have d123 := d12.trans d3
 have hN3 := hN2.did d3 (by omega)
 have hsx := dB hx1
 have hm1 : m ≤ ht p.ns x + 1 := by
  have := hm.2 (x + 1) (by omega) (by omega)
  omega
 refine ⟨_, _, rfl, rfl, ?_⟩
 refine ⟨_, rfl, _, rfl, _, rfl, _, rfl, _, rfl, _, rfl, p.t, p.f, p.sn, p.bl, p.ah, p.ns, ss3, [.ref p.nd], x, rfl, hN3.b.ask, by omega, by omega, fun ss4 H4 w4 s4 => ?_⟩
 have d4 := hN3.b.look w4 s4
 have l4 := d4.wr.len
 have d14 := d123.trans d4
 have hN4 := hN3.did d4 (by omega)
 refine ⟨_, rfl, _, _, rfl, rfl, p, ss4, ds, _, ht p.ns x - (m - 1), rfl, hN4, .inl ⟨a1, ea, ha, by omega, fun v ss5 H5 hv d5 => ?_⟩⟩
 have key : zV ds a1 b1 v := by
  obtain ⟨d, hd, hv⟩ := hv
  rw [hdx] at hd
  cases hd
  obtain ⟨⟨k0, k1, k2, ek⟩, hmin⟩ := hm
  have hm0 : 0 < m := by
   obtain ⟨_, te, tp⟩ := hN.tree
   rcases Nat.lt_or_ge k0 p.ns.length with z | z
   ·have := tp k0 (by omega) z
    omega
   ·have e := dB hy1
    have : k0 = y + 1 := by omega
    subst this
    have := cR hN.good (hN.deep hy1 hy2)
    omega
  rcases hv with ⟨_, hv⟩ | ⟨f, rfl, hf⟩
  ·omega
  rw [show ht p.ns x - (ht p.ns x - (m - 1)) = m - 1 from by omega] at hf
  refine ⟨f, m - 1, rfl, hf, ⟨by have := hf.1; omega, hf.2.1, fun c u c1 c2 ec => ?_⟩, fun y0 gy hgy u1 u2 => ?_⟩
  ·rcases Nat.lt_or_ge a1 c with z | z
   ·obtain ⟨q, q1, q2⟩ := hN.at (List.getElem?_eq_some_iff.mp ec).1
    have e := hN.deep q1 q2
    rw [ec] at e
    have e := Option.some.inj e
    have : x < q := by
     rcases Nat.lt_or_ge x q with w | w
     ·exact w
     ·have := b7 hN.bits q x w
      omega
    have : q ≤ y := by
     rcases Nat.lt_or_ge y q with w | w
     ·have := b7 hN.bits (y + 1) q w
      rw [bV hy1] at this
      omega
     ·exact w
    have := hmin q (by omega) (by omega)
    omega
   ·exact hf.2.2 c u c1 z ec
  ·obtain ⟨z, z1, z2⟩ := hN.at (List.getElem?_eq_some_iff.mp u1.2.1).1
   have hzx : z ≤ x := by
    rcases Nat.lt_or_ge x z with w | w
    ·have := b7 hN.bits (x + 1) z w
     rw [bV hx1] at this
     have := u1.1
     omega
    ·exact w
   have := hN.above z1 z2 hy1 hy2 u2 k0 (by omega) k2
   omega
 refine q v ss5 H5 ?_ ((d14.trans d5).le (by decide))
 rcases hab.2 with ⟨e1, e2⟩ | ⟨e1, e2⟩
 ·rw [← e1, ← e2]
  exact key
 ·rw [← e1, ← e2]
  exact key.swap
def Kq (Ph sn : Addr) (H X : Hp) : Prop := ∀ b o, H b = some o → b ≠ Ph → b ≠ sn → X b = some o
theorem Kq.seq {Ph sn a : Addr} {H X : Hp} {ps : Array Value} {xs : List V} (h : Kq Ph sn H X) (hP : H Ph = some (.tbl ps)) (hn : H sn = none) (s : SqL K H a xs) : SqL K X a xs := by
 have n : ∀ o, H a = some o → (∀ ps, o ≠ .tbl ps) → a ≠ Ph ∧ a ≠ sn := fun o e z => ⟨fun y => by rw [y, hP] at e; cases e; exact z _ rfl, aJ e hn⟩
 rcases s with (e | ⟨o, e⟩) | e
 ·exact .inl (.inl (h _ _ e (n _ e nofun).1 (n _ e nofun).2))
 ·exact .inl (.inr ⟨o, h _ _ e (n _ e nofun).1 (n _ e nofun).2⟩)
 ·exact .inr e
theorem Rows.snoc {H Y : Hp} {r q : Addr} {ds : List Int} {n L : Nat} {B : Nat → Int → Prop} {xs ls : List V} (h : Rows H Y r ds n L B xs) (hq : Y q = none) (hqH : H q = none) (hv : Dv (upd (upd Y q (.lst ls)) r (.lst (xs ++ [.ref q]))) ds n L (B L) (.ref q)) : Rows H (upd (upd Y q (.lst ls)) r (.lst (xs ++ [.ref q]))) r ds n (L + 1) B (xs ++ [.ref q]) := by
 have nq : q ≠ r := fun z => by have := h.row; rw [← z, hq] at this; cases this
 have at_ : ∀ {j : Nat} {q' : Addr}, (xs ++ [V.ref q])[j]? = some (.ref q') → (j < L ∧ xs[j]? = some (.ref q') ∧ q' ≠ q) ∨ (j = L ∧ q' = q) := fun {j q'} e => by
  rcases Nat.lt_or_ge j L with z | z
  ·rw [List.getElem?_append_left (by rw [h.len]; exact z)] at e
   refine .inl ⟨z, e, fun y => ?_⟩
   obtain ⟨q2, d, el, fi, yo, ol, be, e2, h1, _⟩ := h.all j _ e
   cases e2
   rw [y, hq] at h1
   cases h1
  ·have hl := (List.getElem?_eq_some_iff.mp e).1
   rw [List.length_append, List.length_singleton, h.len] at hl
   have : j = L := by omega
   subst this
   rw [List.getElem?_append_right (by rw [h.len]; exact Nat.le_refl _), h.len, Nat.sub_self] at e
   cases e
   exact .inr ⟨rfl, rfl⟩
 refine ⟨au, by rw [List.length_append, h.len]; rfl, fun j y e => ?_, fun i j q' e1 e2 => ?_, fun j q' e => ?_⟩
 ·rcases Nat.lt_or_ge j L with z | z
  ·rw [List.getElem?_append_left (by rw [h.len]; exact z)] at e
   obtain ⟨q2, d, el, fi, yo, ol, be, rfl, h1, h2⟩ := h.all j y e
   exact ⟨q2, d, el, fi, yo, ol, be, rfl, by rw [aH (h.new j q2 e).2, aH (aJ h1 hq)]; exact h1, h2⟩
  ·have hl := (List.getElem?_eq_some_iff.mp e).1
   rw [List.length_append, List.length_singleton, h.len] at hl
   have : j = L := by omega
   subst this
   rw [List.getElem?_append_right (by rw [h.len]; exact Nat.le_refl _), h.len, Nat.sub_self] at e
   cases e
   exact hv
 ·rcases at_ e1 with ⟨a1, a2, a3⟩ | ⟨a1, a2⟩ <;> rcases at_ e2 with ⟨b1, b2, b3⟩ | ⟨b1, b2⟩
  ·exact h.inj i j q' a2 b2
  ·exact absurd b2 a3
  ·exact absurd a2 b3
  ·omega
 ·rcases at_ e with ⟨a1, a2, a3⟩ | ⟨a1, a2⟩
  ·exact h.new j q' a2
  ·subst a2
   exact ⟨hqH, nq⟩
def CK : Sp := fun vs H Q _ => ∃ (p : Addr) (ds : List Int), vs = [.ref p] ∧ H p = some (.lst (ds.map V.int)) ∧ bD ds ∧ ds.length ≤ 2048 ∧ ∀ (r : Addr) (H' : Hp) (xs : List V), H r = none → aY H H' → Rows H H' r ds ds.length ds.length (fun j b => fD ds 1 j b) xs → Q (.ref r) H'
theorem vM (T : Tx K mg a) : bj P w K mg base CX0 1 a.f_law_rows a.fd_law_rows ["_law_depths_here"] CK := by
 refine T.D_law_rows.F.ok cu (fun vs H Q E h => ?_) (fun cdv A outer s H vs Q E hr h => ?_)
 ·obtain ⟨p, ds, rfl, _⟩ := h
  rfl
 obtain ⟨p, ds, rfl, hp, hg, hl, q⟩ := h
 refine ⟨_, (aj (aF (i := 1) cu.nd rfl (Or.inl rfl) (cD (aa (cD (aa ao (aa ao (aa bW (aa bW (aa bW (aa bW (aa ao ak)))))))) ak)))
  (aj (aF (i := 2) cu.nd rfl (Or.inl rfl) (CW (Bo ao ao Ds) rfl rfl (by simp) (by decide)))
  (aj (cB PassesOwn.never rfl (Ae rfl T.b_range (aa ao (aa (aU bc rfl T.b_len Tw.cG (aa (pv 0) ak)) ak))) (bw (i := 3) cu.nd rfl (Or.inl rfl)) (aj (aF (i := 4) cu.nd rfl (Or.inl rfl) (aQ aR (pv 0) (pv 3) (fun _ _ => rfl)))
  (aj (aF (i := 5) cu.nd rfl (Or.inl rfl) bW)
  (uN (aW (aL tZ (aQ aR (pv 0) (az bx (pv 3) ao) (fun _ _ => rfl)) (pv 4) (aN _)) (aj (aF (i := 5) cu.nd rfl (Or.inl rfl) (yX (Nat.lt_of_le_of_lt (Nat.add_le_add_left (by decide : 1 ≤ 64) _) hr.units) (pv 2) (pv 4) (fun _ _ => rfl)))
  (aq (oM (pv 3) (uU (aQ aR (pv 1) (pv 5) (fun _ _ => rfl)) ao set_list)))) (aq (oM (pv 3) (uU (aQ aR (pv 1) (az bx (pv 3) ao) (fun _ _ => rfl)) ao set_list))))
  (aj (bz (ir PySem.F.plainAttrs_list PySem.F.slot_list_append PySem.F.type_list_append bT (pv 1) (aa (cD (aa (az bx (az aV (az aV (aQ aR (aQ aR (pv 1) (az bx (pv 3) ao) (fun _ _ => rfl)) ao (fun _ _ => rfl)) ao) (aQ aR (pv 0) (az bx (pv 3) ao) (fun _ _ => rfl))) (pv 4)) (aa (pv 4) (aa (yX (Nat.lt_of_le_of_lt (Nat.add_le_add_left (by decide : 1 ≤ 64) _) hr.units) (pv 2) (az bx (pv 4) ao) (fun _ _ => rfl)) (aa bW (aa bW (aa (pv 5) (aa ao ak)))))))) ak)))
  (aq (DG (Nat.lt_of_le_of_lt (Nat.add_le_add_left (by decide : 1 ≤ 64) _) hr.units) (pv 2) (pv 4) (pv 3) rfl)))))))
  (aj (cB PassesOwn.never rfl (rD rfl T.b_range (aa (az bx (aU bc rfl T.b_len Tw.cG (aa (pv 0) ak)) ao) (aa ao (aa (tQ m9 ao) ak)))) (bw (i := 3) cu.nd rfl (Or.inl rfl)) (aj (aF (i := 6) cu.nd rfl (Or.inl rfl) (aQ aR (pv 1) (aQ aR (aQ aR (pv 1) (pv 3) (fun _ _ => rfl)) ao (fun _ _ => rfl)) (fun _ _ => rfl)))
  (aq (oM (az aV (az aV (aQ aR (pv 6) ao (fun _ _ => rfl)) (aQ aR (aQ aR (pv 1) (pv 3) (fun _ _ => rfl)) ao (fun _ _ => rfl))) ao) (uU (pv 6) ao set_list)))))
  (aq (aB (pv 1))))))), ?_⟩
 have ern : (ds.map V.int).length = ds.length := List.length_map ..
 have h0 : 0 < ds.length := (List.getElem?_eq_some_iff.mp hg.1).1
 refine ⟨(by show 7 ≤ sizeLine; decide), fun q0 hq0 => ⟨(by show 1 ≤ sizeLine; decide), fun r hr' => ?_⟩⟩
 have s0 := aA hq0 (.lst [.int 0, .int 0, .non, .non, .non, .non, .int 0])
 have hr0 := s0.free hr'
 have nq : q0 ≠ r := aJ au hr'
 have s1 := s0.trans (aA hr' (.lst [.ref q0]))
 have xr1 : upd (upd H q0 (.lst [.int 0, .int 0, .non, .non, .non, .non, .int 0])) r (.lst [.ref q0]) r = some (.lst [.ref q0]) := au
 have xq1 : upd (upd H q0 (.lst [.int 0, .int 0, .non, .non, .non, .non, .int 0])) r (.lst [.ref q0]) q0 = some (.lst [.int 0, .int 0, .non, .non, .non, .non, .int 0]) := by rw [aH nq, au]
 generalize upd (upd H q0 (.lst [.int 0, .int 0, .non, .non, .non, .non, .int 0])) r (.lst [.ref q0]) = H1 at *
 refine fun la hla => ?_
 have s2 := s1.trans (aA hla (.dK []))
 refine ⟨au, [(Sum.inl 0, V.int 0)], rfl, by decide, ?_⟩
 have hla0 := s1.free hla
 have s3 := bL s2 hla0 (.dK (iG [] [(Sum.inl 0, V.int 0)]))
 have nrl : r ≠ la := aJ xr1 hla
 have nql : q0 ≠ la := aJ xq1 hla
 have hRows : Rows H (upd (upd H1 la (.dK [])) la (.dK (iG [] [(Sum.inl 0, V.int 0)]))) r ds 1 1 (fun _ b => b = 0) [.ref q0] := by
  refine ⟨by rw [aH nrl, aH nrl]; exact xr1, rfl, fun j y e => ?_, fun i j q e1 e2 => ?_, fun j q e => ?_⟩
  ·have ej : j = 0 := by
    have := (List.getElem?_eq_some_iff.mp e).1
    simpa using this
   subst ej
   cases e
   refine ⟨q0, 0, .non, .non, .non, .non, 0, rfl, by rw [aH nql, aH nql]; exact xq1, hg.1, .inl ⟨rfl, rfl⟩, FiP.none hg.1, YoP.none hg.1, ⟨0, hg.1, .inr ⟨rfl, fun i hi => absurd hi (Nat.not_lt_zero _)⟩⟩, rfl⟩
  ·have a1 := (List.getElem?_eq_some_iff.mp e1).1
   have a2 := (List.getElem?_eq_some_iff.mp e2).1
   simp at a1 a2
   omega
  ·have ej : j = 0 := by
    have := (List.getElem?_eq_some_iff.mp e).1
    simpa using this
   subst ej
   cases e
   exact ⟨hq0, nq⟩
 have xla : upd (upd H1 la (.dK [])) la (.dK (iG [] [(Sum.inl 0, V.int 0)])) la = some (.dK [(Sum.inl 0, V.int 0)]) := au
 generalize upd (upd H1 la (.dK [])) la (.dK (iG [] [(Sum.inl 0, V.int 0)])) = H3 at *
 refine ⟨_, rfl, p, _, rfl, .inl (SqL.of (s3 _ _ hp)), 1, (ds.length : Int), congrArg (fun n : Nat => [V.int 1, V.int (n : Int)]) ern, ⟨by decide, by decide, by omega, by omega⟩, ?_⟩
 rw [show ((ds.length : Int) - 1).toNat = ds.length - 1 by omega]
 have fst : ∀ (x y : Int) {i : Nat}, ds[i]? = some y → ds[i + 1]? = some x → x ≤ y → ∀ j, j < i + 1 → ∀ v, FiP ds (i + 1) j v → FiP ds (i + 2) j v := fun x y {i} hdj hdk c j hj v hv => by
  rcases Nat.lt_or_ge (j + 1) (i + 1) with z | z
  ·exact hv.old z
  ·have : j = i := by omega
   subst this
   obtain ⟨d, hd, ⟨_, h1, _⟩ | ⟨rfl, _⟩⟩ := hv
   ·omega
   ·have := FiP.last hdj hdk
    rw [if_neg (by omega)] at this
    exact this
 refine nF (n := ds.length - 1) (fun i σ X => (∃ k3 k4 k5, σ = [some (.ref p), some (.ref r), some (.ref la), k3, k4, k5, none]) ∧ aY H X ∧ ∃ xs kvs, Rows H X r ds (i + 1) (i + 1) (fun _ b => b = 0) xs ∧ X la = some (.dK kvs) ∧ kvs.length ≤ i + 2 ∧ ∀ g, 0 ≤ g → fH kvs (Sum.inl g) = (jF ds (i + 1) g).map fun e : Nat => V.int (e : Int)) ⟨⟨none, none, none, rfl⟩, s3, _, _, hRows, xla, by simp, fun g g0 => ?_⟩ ?_ ?_
 ·by_cases z : g = 0
  ·subst z
   unfold jF
   rw [if_pos hg.1]
   rfl
  ·unfold jF
   rw [if_neg (fun y => z (Option.some.inj (y.symm.trans hg.1)))]
   show fH [((Sum.inl 0 : Key), V.int 0)] (Sum.inl g) = none
   rw [cN (fun y => z (Sum.inl.inj y).symm)]
   rfl
 ·rintro i σ X hi ⟨⟨k3, k4, k5, rfl⟩, sm, xs, kvs, hR, xl, hkl, hlast⟩
  have ek : (1 : Int) + (i : Int) = ((i + 1 : Nat) : Int) := by omega
  rw [ek]
  have hdk := List.getElem?_eq_getElem (show i + 1 < ds.length by omega)
  have hdj := List.getElem?_eq_getElem (show i < ds.length by omega)
  generalize ds[i + 1] = x at *
  generalize ds[i] = y at *
  have hxy := hg.2 i y x hdj hdk
  have hy0 := cR hg hdj
  have ixk : atI (ds.map V.int) ((i + 1 : Nat) : Int) = some (.int x) := cH (by rw [List.getElem?_map, hdk]; rfl)
  have ixj : atI (ds.map V.int) (((i + 1 : Nat) : Int) - 1) = some (.int y) := by
   rw [show ((i + 1 : Nat) : Int) - 1 = (i : Int) by omega]
   exact cH (by rw [List.getElem?_map, hdj]; rfl)
  refine ⟨_, rfl, _, rfl, p, _, _, _, rfl, rfl, SqL.of (sm _ _ hp), ixk, ?_⟩
  refine ⟨fun σ Y => ∃ ol xs, σ = [some (.ref p), some (.ref r), some (.ref la), some (.int ((i + 1 : Nat) : Int)), some (.int x), some ol, none] ∧ OlR ds (i + 1) ol ∧ aY H Y ∧ Rows H Y r ds (i + 2) (i + 1) (fun _ b => b = 0) xs ∧ Y la = some (.dK kvs), ?_, ?_⟩
  ·refine ⟨_, rfl, _, rfl, _, _, rfl, rfl, p, _, _, _, rfl, rfl, SqL.of (sm _ _ hp), ixj, _, rfl, _, _, rfl, rfl, _, rfl, aP (fun c => ?_) fun c => ?_⟩
   ·have c : x ≤ y := of_decide_eq_true c
    obtain ⟨e, e1, e2, e3, e4⟩ := qp hg i y x hdj (by omega) c
    have hv : fH kvs (Sum.inl x) = some (.int (e : Int)) := by rw [hlast x (by omega), e1]; rfl
    refine ⟨_, rfl, _, rfl, la, .int (e : Int), rfl, by rw [← hv]; exact xW.k (k := Sum.inl x) xl, ?_⟩
    have hex := List.getElem?_eq_getElem (show e < xs.length by rw [hR.len]; omega)
    obtain ⟨qe, de, el, fi, yo, ol', be, eq1, xq, hde, h1, h2, h3, h4, h5⟩ := hR.all e _ hex
    rw [eq1] at hex
    have hde' : de = x := Option.some.inj (hde.symm.trans e3)
    refine ⟨_, rfl, _, rfl, _, rfl, r, _, _, _, rfl, rfl, SqL.of hR.row, cH hex, qe, _, _, 4, rfl, rfl, xq, rfl, ?_⟩
    have hnn := hR.new e qe hex
    refine ⟨.int (e : Int), xs, rfl, ⟨x, hdk, .inl ⟨e, rfl, by omega, e3, fun m y' m1 m2 => e4 m y' m1 (by omega)⟩⟩, bL sm hnn.1 _, hR.set hex ⟨qe, de, el, fi, .int ((i + 1 : Nat) : Int), ol', be, rfl, au, hde, h1, fst x y hdj hdk c e (by omega) fi h2, YoP.new hdk e3 (by omega) (fun m y' m1 m2 => e4 m y' m1 (by omega)), h4, h5⟩ (fun j hje hjl => ⟨fun v hv => fst x y hdj hdk c j (by omega) v hv, fun v hv => hv.old hdk (by omega) (fun ej => ?_) (fun _ _ _ _ _ => trivial), fun b hb => hb⟩), ?_⟩
    ·rcases Nat.lt_or_ge j e with z | z
     ·exact ⟨e, x, z, by omega, e3, Int.le_refl _⟩
     ·have := e4 j x (by omega) (by omega) ej
      omega
    ·rw [aH (fun z => by rw [z, xq] at xl; cases xl)]
     exact xl
   ·have c : ¬ x ≤ y := fun z => c (decide_eq_true z)
    have hxi := List.getElem?_eq_getElem (show i < xs.length by rw [hR.len]; omega)
    obtain ⟨qe, de, el, fi, yo, ol', be, eq1, xq, hde, h1, h2, h3, h4, h5⟩ := hR.all i _ hxi
    rw [eq1] at hxi
    have hde' : de = y := Option.some.inj (hde.symm.trans hdj)
    have ati : atI xs (((i + 1 : Nat) : Int) - 1) = some (.ref qe) := by
     rw [show ((i + 1 : Nat) : Int) - 1 = (i : Int) by omega]
     exact cH hxi
    refine ⟨_, rfl, _, rfl, _, rfl, _, _, rfl, rfl, r, _, _, _, rfl, rfl, SqL.of hR.row, ati, qe, _, _, 3, rfl, rfl, xq, rfl, ?_⟩
    have hnn := hR.new i qe hxi
    have hfl := FiP.last hdj hdk
    rw [if_pos (by omega)] at hfl
    refine ⟨.non, xs, rfl, ⟨x, hdk, .inr ⟨rfl, fun m m1 em => ?_⟩⟩, bL sm hnn.1 _, hR.set hxi ⟨qe, de, el, .int ((i + 1 : Nat) : Int), yo, ol', be, rfl, au, hde, h1, hfl, h3.old hdk (by omega) (fun ej => ?_) (fun _ _ _ _ _ => trivial), h4, h5⟩ (fun j hje hjl => ⟨fun v hv => hv.old (by omega), fun v hv => hv.old hdk (by omega) (fun ej => ⟨i, y, by omega, by omega, hdj, by omega⟩) (fun _ _ _ _ _ => trivial), fun b hb => hb⟩), ?_⟩
    ·have : m ≠ i := fun z => by
      subst z
      have := Option.some.inj (em.symm.trans hdj)
      omega
     exact ⟨i, y, by omega, by omega, hdj, by omega⟩
    ·have := Option.some.inj (ej.symm.trans hdj)
     omega
    ·rw [aH (fun z => by rw [z, xq] at xl; cases xl)]
     exact xl
  rintro σ Y ⟨ol, xs, rfl, hol, smY, hRY, xlY⟩
  have hxi := List.getElem?_eq_getElem (show i < xs.length by rw [hRY.len]; omega)
  obtain ⟨qe, de, el, fi, yo, ol', be, eq1, xq, hde, _⟩ := hRY.all i _ hxi
  rw [eq1] at hxi
  have hde' : de = y := Option.some.inj (hde.symm.trans hdj)
  subst hde'
  have ati : atI xs (((i + 1 : Nat) : Int) - 1) = some (.ref qe) := by
   rw [show ((i + 1 : Nat) : Int) - 1 = (i : Int) by omega]
   exact cH hxi
  obtain ⟨ee, f1, f2, f3⟩ := sS hg (show 0 < i + 1 by omega) hdk
  have hv : fH kvs (Sum.inl (x - 1)) = some (.int (ee : Int)) := by rw [hlast (x - 1) (by omega), f1]; rfl
  refine ⟨_, rfl, .inl ⟨rfl, _, SqL.of hRY.row⟩, _, rfl, _, rfl, _, _, rfl, rfl, r, _, _, _, rfl, rfl, SqL.of hRY.row, ati, qe, _, _, _, rfl, rfl, SqL.of xq, rfl, _, _, rfl, rfl, _, rfl, _, rfl, _, _, rfl, rfl, p, _, _, _, rfl, rfl, SqL.of (smY _ _ hp), ixj, _, _, rfl, rfl, _, rfl, _, _, rfl, rfl, _, rfl, _, rfl, _, rfl, _, _, rfl, rfl, la, .int (ee : Int), rfl, by rw [← hv]; exact xW.k (k := Sum.inl (x - 1)) xlY, _, rfl, (by show 7 ≤ sizeLine; decide), fun q hqn => ?_⟩
  have hnq := smY.free hqn
  have nqr : q ≠ r := fun z => by have := hRY.row; rw [← z, hqn] at this; cases this
  refine ⟨r, _, _, rfl, rfl, aA hqn _ _ _ hRY.row, by rw [hRY.len, sizeLine_eq]; omega, ?_⟩
  have hS2 := hRY.snoc (ls := [.int (2 * (i : Int) - de + 2 + de - x), .int x, .int (ee : Int), .non, .non, ol, .int 0]) hqn hnq ⟨q, x, .int (ee : Int), .non, .non, ol, 0, rfl, by rw [aH nqr, au]; exact congrArg (fun z => some (HO.lst (V.int z :: [.int x, .int (ee : Int), .non, .non, ol, .int 0]))) (by omega), hdk, .inr ⟨ee, x, rfl, hdk, f2, f3⟩, FiP.none hdk, YoP.none hdk, hol, rfl⟩
  have sm2 : aY H (upd (upd Y q (.lst [.int (2 * (i : Int) - de + 2 + de - x), .int x, .int (ee : Int), .non, .non, ol, .int 0])) r (.lst (xs ++ [.ref q]))) := bL (smY.trans (aA hqn _)) hr0 _
  have nlq : la ≠ q := aJ xlY hqn
  have xl2 : upd (upd Y q (.lst [.int (2 * (i : Int) - de + 2 + de - x), .int x, .int (ee : Int), .non, .non, ol, .int 0])) r (.lst (xs ++ [.ref q])) la = some (.dK kvs) := by
   rw [aH nrl.symm, aH nlq]
   exact xlY
  refine ⟨_, rfl, _, rfl, _, rfl, la, _, rfl, Bk.k (k := Sum.inl x) xl2 (by rw [sizeLine_eq]; omega), ⟨_, _, _, rfl⟩, bL sm2 hla0 _, xs ++ [.ref q], _, hS2.kept fun b ys e _ => by rw [aH (fun z => by rw [z, xl2] at e; cases e)]; exact e, au, ?_, fun g g0 => ?_⟩
  ·have := gw kvs (Sum.inl x) (.int ((i + 1 : Nat) : Int))
   omega
  ·rw [BL]
   by_cases e : g = x
   ·subst e
    rw [if_pos rfl]
    unfold jF
    rw [if_pos hdk]
    rfl
   ·rw [if_neg (fun z => e (Sum.inl.inj z)), hlast g g0]
    conv => rhs; unfold jF
    rw [if_neg (fun z => e (Option.some.inj (z.symm.trans hdk)))]
 ·rintro σ X ⟨⟨k3, k4, k5, rfl⟩, sm, xs, kvs, hR, xl, _⟩
  rw [show ds.length - 1 + 1 = ds.length by omega] at hR
  refine ⟨_, rfl, p, _, rfl, .inl (SqL.of (sm _ _ hp)), _, _, rfl, rfl, _, rfl, ds.length - 1, 0, ?_, by omega, by omega, ?_⟩
  ·rw [show ((ds.length - 1 : Nat) : Int) = (((ds.map V.int).length : Nat) : Int) - 1 by rw [ern]; omega]
   rfl
  have hR0 : Rows H X r ds ds.length ds.length (fun j b => fD ds ds.length j b) xs := ⟨hR.row, hR.len, fun j y e => by
   obtain ⟨q, d, el, fi, yo, ol, be, rfl, h1, h2, h3, h4, h5, h6, rfl⟩ := hR.all j y e
   have hj : j < ds.length := by rw [← hR.len]; exact (List.getElem?_eq_some_iff.mp e).1
   exact ⟨q, d, el, fi, yo, ol, 0, rfl, h1, h2, h3, h4, h5, h6, fD.init hj⟩, hR.inj, hR.new⟩
  refine vZ (n := ds.length - 1 - 0) (fun i σ X => (∃ k3 k4 k5 k6, σ = [some (.ref p), some (.ref r), some (.ref la), k3, k4, k5, k6]) ∧ aY H X ∧ Rows H X r ds ds.length ds.length (fun j b => fD ds (ds.length - i) j b) xs) ⟨⟨_, _, _, _, rfl⟩, sm, hR0⟩ ?_ ?_
  ·rintro i σ Y hi ⟨⟨k3, k4, k5, k6, rfl⟩, smY, hR⟩
   obtain ⟨k, hk⟩ : ∃ k, ds.length = k + i + 1 := ⟨ds.length - i - 1, by omega⟩
   have ek : ((ds.length - 1 : Nat) : Int) + (i : Int) * (-1) = (k : Int) := by omega
   rw [ek]
   rw [show ds.length - i = k + 1 by omega] at hR
   rw [show ds.length - (i + 1) = k by omega]
   have hxk := List.getElem?_eq_getElem (show k < xs.length by rw [hR.len]; omega)
   obtain ⟨qk, dk, el, fi, yo, ol, be, eq1, xqk, hdk, h1, h2, h3, h4, h5⟩ := hR.all k _ hxk
   rw [eq1] at hxk
   rcases h1 with ⟨z, _⟩ | ⟨e, d', rfl, hd', hd1, hup⟩
   ·omega
   have ed : d' = dk := Option.some.inj (hd'.symm.trans hdk)
   subst ed
   have hek : e < k := by
    rcases Nat.lt_or_ge e k with z | z
    ·exact z
    ·have h1 := hup.1
     have : e = k := by omega
     subst this
     have := hup.2.1
     rw [hdk] at this
     have := Option.some.inj this
     omega
   have hxe := List.getElem?_eq_getElem (show e < xs.length by rw [hR.len]; omega)
   obtain ⟨qe, de, el', fi', yo', ol', be', eq2, xqe, hde, g1, g2, g3, g4, g5⟩ := hR.all e _ hxe
   rw [eq2] at hxe
   refine ⟨_, rfl, _, rfl, _, rfl, r, _, _, _, rfl, rfl, SqL.of hR.row, cH hxk, qk, _, _, _, rfl, rfl, SqL.of xqk, rfl, r, _, _, _, rfl, rfl, SqL.of hR.row, cH hxe, ?_⟩
   refine ⟨_, rfl, qe, _, _, _, rfl, rfl, SqL.of xqe, rfl, _, rfl, _, rfl, r, _, _, _, rfl, rfl, SqL.of hR.row, cH hxk, qk, _, _, _, rfl, rfl, SqL.of xqk, rfl, _, _, rfl, rfl, _, _, rfl, rfl, _, rfl, qe, _, _, 6, rfl, rfl, xqe, rfl, ?_⟩
   refine ⟨⟨_, _, _, _, rfl⟩, bL smY (hR.new e qe hxe).1 _, hR.set hxe ⟨qe, de, el', fi', yo', ol', be' + be + 1, rfl, au, hde, g1, g2, g3, g4, fD.elder hg hdk hup hek h5 g5⟩ (fun j hje hjl => ⟨fun v hv => hv, fun v hv => hv, fun b hb => fD.other hdk hup hek hje hb⟩)⟩
  ·rintro σ Y ⟨⟨k3, k4, k5, k6, rfl⟩, smY, hR⟩
   rw [show ds.length - (ds.length - 1 - 0) = 1 by omega] at hR
   exact ⟨_, rfl, q r Y xs hr0 smY hR⟩
structure RWs (X : Hp) (r : Addr) (ds : List Int) (xs : List V) : Prop where
 row : X r = some (.lst xs)
 len : xs.length = ds.length
 all : ∀ (j : Nat) (y : V), xs[j]? = some y → Dv X ds ds.length j (fD ds 1 j) y
theorem RWs.kept {X Y : Hp} {r : Addr} {ds : List Int} {xs : List V} (h : RWs X r ds xs) (k1 : Y r = some (.lst xs)) (k : ∀ (j : Nat) (q : Addr) (ys : List V), xs[j]? = some (V.ref q) → X q = some (.lst ys) → Y q = some (.lst ys)) : RWs Y r ds xs :=
 ⟨k1, h.len, fun j y e => by
  obtain ⟨q, d, el, fi, yo, ol, be, rfl, h1, h2⟩ := h.all j y e
  exact ⟨q, d, el, fi, yo, ol, be, rfl, k j q _ e h1, h2⟩⟩
theorem Int.emod_le_of_nonneg' {a : Int} (h : 0 ≤ a) (b : Int) : a % b ≤ a := by
 rcases Int.lt_trichotomy b 0 with z | z | z
 ·rw [← Int.emod_neg]
  have h1 := Int.emod_add_mul_ediv a (-b)
  have h2 := Int.mul_nonneg (show 0 ≤ -b by omega) (Int.ediv_nonneg h (show 0 ≤ -b by omega))
  omega
 ·subst z
  rw [Int.emod_zero]
  exact Int.le_refl _
 ·have h1 := Int.emod_add_mul_ediv a b
  have h2 := Int.mul_nonneg (Int.le_of_lt z) (Int.ediv_nonneg h (Int.le_of_lt z))
  omega
theorem RWs.at {X : Hp} {r : Addr} {ds : List Int} {xs : List V} (h : RWs X r ds xs) {j : Nat} (hj : j < ds.length) : ∃ (q : Addr) (d : Int) (el fi yo ol : V) (be : Int), xs[j]? = some (.ref q) ∧ X q = some (.lst [.int (2 * (j : Int) - d), .int d, el, fi, yo, ol, .int be]) ∧ ds[j]? = some d ∧ ElV ds j el ∧ FiP ds ds.length j fi ∧ YoP ds ds.length j yo ∧ OlR ds j ol ∧ fD ds 1 j be := by
 have e := List.getElem?_eq_getElem (show j < xs.length by rw [h.len]; exact hj)
 obtain ⟨q, d, el, fi, yo, ol, be, eq, h1, h2⟩ := h.all j _ e
 rw [eq] at e
 exact ⟨q, d, el, fi, yo, ol, be, e, h1, h2⟩
theorem FiP.fir {ds : List Int} {j : Nat} {v : V} (h : FiP ds ds.length j v) : zq ds j v := by
 obtain ⟨d, hd, ⟨rfl, h1, h2⟩ | ⟨rfl, h1⟩⟩ := h
 ·exact ⟨d, hd, .inl ⟨congrArg V.int (by omega), h2⟩⟩
 ·exact ⟨d, hd, .inr ⟨rfl, fun z => h1 ⟨(List.getElem?_eq_some_iff.mp z).1, z⟩⟩⟩
theorem YoP.yo {ds : List Int} {j : Nat} {v : V} (h : YoP ds ds.length j v) : YoV ds j v := by
 obtain ⟨d, hd, ⟨k, rfl, h1, h2, h3, h4⟩ | ⟨rfl, h1⟩⟩ := h
 ·have e : run ds (j + 1) d = k - (j + 1) := by
   refine lL _ _ (fun m hm => ?_) (fun x ex => ?_)
   ·have e := List.getElem?_eq_getElem (show j + 1 + m < ds.length by omega)
    exact ⟨_, e, h4 _ _ (by omega) (by omega) e⟩
   ·rw [show j + 1 + (k - (j + 1)) = k by omega, h3] at ex
    have := Option.some.inj ex
    omega
  refine ⟨d, hd, .inl ⟨congrArg V.int (by rw [e]; omega), ?_⟩⟩
  rw [e, show j + 1 + (k - (j + 1)) = k by omega]
  exact h3
 ·refine ⟨d, hd, .inr ⟨rfl, fun z => ?_⟩⟩
  obtain ⟨m, y, m1, m2, e, hy⟩ := h1 _ (by omega) (List.getElem?_eq_some_iff.mp z).1 z
  obtain ⟨a, _⟩ := mC _ (j + 1) (rfl : run ds (j + 1) d = _)
  obtain ⟨x, ex, hx⟩ := a (m - (j + 1)) (by omega)
  rw [show j + 1 + (m - (j + 1)) = m by omega, e] at ex
  have := Option.some.inj ex
  omega
theorem ElV.eld {ds : List Int} (hg : bD ds) {j : Nat} {v : V} (h : ElV ds j v) : UpV ds j 1 v := by
 rcases h with ⟨rfl, rfl⟩ | ⟨e, d, rfl, hd, _, hu⟩
 ·exact ⟨0, hg.1, .inl ⟨rfl, by decide⟩⟩
 ·exact ⟨d, hd, .inr ⟨e, rfl, hu⟩⟩
theorem UpV.uniq {ds : List Int} {j : Nat} {st : Int} {x y : V} (hg : bD ds) (h : UpV ds j st x) (h' : UpV ds j st y) : x = y := by
 obtain ⟨d, hd, h⟩ := h
 obtain ⟨d', hd', h'⟩ := h'
 rw [hd] at hd'
 cases hd'
 rcases h with ⟨rfl, h1⟩ | ⟨i, rfl, h1⟩ <;> rcases h' with ⟨rfl, h2⟩ | ⟨i', rfl, h2⟩
 ·rfl
 ·have := cR hg h2.2.1
  omega
 ·have := cR hg h1.2.1
  omega
 ·rw [h1.uniq h2]
theorem zq.uniq {ds : List Int} {j : Nat} {x y : V} (h : zq ds j x) (h' : zq ds j y) : x = y := by
 obtain ⟨d, hd, h⟩ := h
 obtain ⟨d', hd', h'⟩ := h'
 rw [hd] at hd'
 cases hd'
 rcases h with ⟨rfl, h1⟩ | ⟨rfl, h1⟩ <;> rcases h' with ⟨rfl, h2⟩ | ⟨rfl, h2⟩
 ·rfl
 ·exact absurd h1 h2
 ·exact absurd h2 h1
 ·rfl
theorem YoV.uniq {ds : List Int} {j : Nat} {x y : V} (h : YoV ds j x) (h' : YoV ds j y) : x = y := by
 obtain ⟨d, hd, h⟩ := h
 obtain ⟨d', hd', h'⟩ := h'
 rw [hd] at hd'
 cases hd'
 rcases h with ⟨rfl, h1⟩ | ⟨rfl, h1⟩ <;> rcases h' with ⟨rfl, h2⟩ | ⟨rfl, h2⟩
 ·rfl
 ·exact absurd h1 h2
 ·exact absurd h2 h1
 ·rfl
theorem OlV.uniq {ds : List Int} {j : Nat} {x y : V} (h : OlV ds j x) (h' : OlV ds j y) : x = y := by
 obtain ⟨d, hd, h⟩ := h
 obtain ⟨d', hd', h'⟩ := h'
 rw [hd] at hd'
 cases hd'
 have key : ∀ {i : Nat}, i < j → ds[i]? = some d → (∀ m y, i < m → m < j → ds[m]? = some y → d < y) → (∀ i, i < j → ds[i]? = some d → ∃ m y, i < m ∧ m < j ∧ ds[m]? = some y ∧ y < d) → False := fun {i} a1 a2 a3 b => by
  obtain ⟨m, y, m1, m2, e, hy⟩ := b i a1 a2
  have := a3 m y m1 m2 e
  omega
 rcases h with ⟨i, rfl, a1, a2, a3⟩ | ⟨rfl, b⟩ <;> rcases h' with ⟨i', rfl, c1, c2, c3⟩ | ⟨rfl, e⟩
 ·rcases Nat.lt_trichotomy i i' with z | z | z
  ·have := a3 i' d z c1 c2
   omega
  ·rw [z]
  ·have := c3 i d z a1 a2
   omega
 ·exact (key a1 a2 a3 e).elim
 ·exact (key c1 c2 c3 b).elim
 ·rfl
def wH (ds : List Int) (way : Int) (i j : Nat) (x : V) : Prop :=
 (way = 0 ∧ ∃ d, ds[i]? = some d ∧ x = .int (2 * (i : Int) - d)) ∨ (way = 1 ∧ Gv ds i x) ∨ (way = 2 ∧ UpV ds i 1 x) ∨ (way = 3 ∧ zq ds i x) ∨ (way = 4 ∧ YoV ds i x) ∨ (way = 5 ∧ OlV ds i x) ∨ (way = 6 ∧ GR ds i x) ∨ (way = 7 ∧ ∃ d, ds[i]? = some d ∧ UpV ds i ((j : Int) % (d + 2)) x) ∨ (way = 8 ∧ CG ds i j x) ∨ (way = 9 ∧ zV ds i j x)
theorem wH.uniq {ds : List Int} (hg : bD ds) {way : Int} {i j : Nat} {x y : V} (h : wH ds way i j x) (h' : wH ds way i j y) : x = y := by
 rcases h with ⟨rfl, h⟩ | ⟨rfl, h⟩ | ⟨rfl, h⟩ | ⟨rfl, h⟩ | ⟨rfl, h⟩ | ⟨rfl, h⟩ | ⟨rfl, h⟩ | ⟨rfl, h⟩ | ⟨rfl, h⟩ | ⟨rfl, h⟩ <;>
  rcases h' with ⟨e, h'⟩ | ⟨e, h'⟩ | ⟨e, h'⟩ | ⟨e, h'⟩ | ⟨e, h'⟩ | ⟨e, h'⟩ | ⟨e, h'⟩ | ⟨e, h'⟩ | ⟨e, h'⟩ | ⟨e, h'⟩ <;> first | (exact absurd e (by decide)) | skip
 ·obtain ⟨d, hd, rfl⟩ := h
  obtain ⟨d', hd', rfl⟩ := h'
  rw [Option.some.inj (hd.symm.trans hd')]
 ·obtain ⟨d, hd, rfl⟩ := h
  obtain ⟨d', hd', rfl⟩ := h'
  rw [Option.some.inj (hd.symm.trans hd')]
 ·exact h.uniq hg h'
 ·exact h.uniq h'
 ·exact h.uniq h'
 ·exact h.uniq h'
 ·obtain ⟨d, hd, rfl⟩ := h
  obtain ⟨d', hd', rfl⟩ := h'
  rw [Option.some.inj (hd.symm.trans hd')]
 ·obtain ⟨d, hd, h⟩ := h
  obtain ⟨d', hd', h'⟩ := h'
  rw [← Option.some.inj (hd.symm.trans hd')] at h'
  exact h.uniq hg h'
 ·obtain ⟨d, hd, h⟩ := h
  obtain ⟨d', hd', h'⟩ := h'
  rw [← Option.some.inj (hd.symm.trans hd')] at h'
  rcases h with ⟨h1, rfl⟩ | ⟨h1, rfl⟩ <;> rcases h' with ⟨h2, rfl⟩ | ⟨h2, rfl⟩
  ·rfl
  ·exact absurd h1 h2
  ·exact absurd h2 h1
  ·rfl
 ·obtain ⟨f, g, rfl, u1, u2, u3⟩ := h
  obtain ⟨f', g', rfl, v1, v2, v3⟩ := h'
  have eg : g' = g := by
   rcases Int.lt_trichotomy g' g with z | z | z
   ·exact (v3 f g z u1 u2).elim
   ·exact z
   ·exact (u3 f' g' z v1 v2).elim
  subst eg
  rw [u1.uniq v1]
theorem wH.kind {ds : List Int} {way : Int} {i j : Nat} {x : V} (h : wH ds way i j x) : x = .non ∨ (∃ b, x = .bl b) ∨ ∃ n, x = .int n := by
 rcases h with ⟨rfl, _, _, rfl⟩ | ⟨rfl, _, _, rfl⟩ | ⟨rfl, _, _, ⟨rfl, _⟩ | ⟨_, rfl, _⟩⟩ | ⟨rfl, _, _, ⟨rfl, _⟩ | ⟨rfl, _⟩⟩ | ⟨rfl, _, _, ⟨rfl, _⟩ | ⟨rfl, _⟩⟩ | ⟨rfl, _, _, ⟨_, rfl, _⟩ | ⟨rfl, _⟩⟩ | ⟨rfl, _, _, rfl⟩ | ⟨rfl, _, _, _, _, ⟨rfl, _⟩ | ⟨_, rfl, _⟩⟩ | ⟨rfl, _, _, ⟨_, rfl⟩ | ⟨_, rfl⟩⟩ | ⟨rfl, _, _, rfl, _⟩ <;>
  first | exact .inl rfl | exact .inr (.inl ⟨_, rfl⟩) | exact .inr (.inr ⟨_, rfl⟩)
def Gj : Sp := fun vs H Q _ => ∃ (r : Addr) (ds : List Int) (xs : List V) (j : Nat) (st : Int), vs = [.ref r, .int (j : Int), .int st] ∧ RWs H r ds xs ∧ bD ds ∧ j < ds.length ∧ 0 ≤ st ∧ st ≤ 5000 ∧ ∀ x, UpV ds j st x → Q x H
theorem zR (T : Tx K mg a) : bj P w K mg base CX0 1 a.f_law_up a.fd_law_up ["_law_rows_here", "_law_node", "_law_steps"] Gj := by
 refine T.D_law_up.F.ok oE (fun vs H Q E h => ?_) (fun cdv A outer s H vs Q E hr h => ?_)
 ·obtain ⟨r, ds, xs, j, st, rfl, _⟩ := h
  rfl
 obtain ⟨r, ds, xs, j, st, rfl, hR, hg, hj, hs0, hs1, q⟩ := h
 refine ⟨_, (aj (cB PassesOwn.never rfl (jX rfl T.b_range (aa (pv 2) ak)) (bw (i := 3) oE.nd rfl (Or.inl rfl)) (aq (aW (fV (uD (pv 1))) (aq (aF (i := 1) oE.nd rfl (Or.inl rfl) (aQ aR (aQ aR (pv 0) (pv 1) (fun _ _ => rfl)) ao (fun _ _ => rfl)))) aM)))
  (aq (aB (pv 1)))), ?_⟩
 have hdj := List.getElem?_eq_getElem hj
 generalize ds[j] = d at *
 refine ⟨_, rfl, st, rfl, by omega, by omega, ?_⟩
 refine nF (n := st.toNat) (fun i σ X => X = H ∧ ∃ (v : V) (k3 : Option V), σ = [some (.ref r), some v, some (.int st), k3] ∧ UpV ds j (i : Int) v) ⟨rfl, _, none, rfl, d, hdj, .inr ⟨j, rfl, by rw [show d - ((0 : Nat) : Int) = d by omega]; exact UpN.self hdj⟩⟩ ?_ ?_
 ·rintro i σ X hi ⟨rfl, v, k3, rfl, d', hd', hv⟩
  rw [hdj] at hd'
  cases hd'
  rcases hv with ⟨rfl, hv⟩ | ⟨n, rfl, hu⟩
  ·refine ⟨_, rfl, _, rfl, cW ⟨rfl, _, _, rfl, d, hdj, .inl ⟨rfl, by omega⟩⟩⟩
  ·have hn := (List.getElem?_eq_some_iff.mp hu.2.1).1
   obtain ⟨q1, dn, el, fi, yo, ol, be, h1, h2, h3, h4, _⟩ := hR.at hn
   refine ⟨_, rfl, _, rfl, dN ⟨_, rfl, _, rfl, r, _, _, _, rfl, rfl, SqL.of hR.row, cH h1, q1, _, _, _, rfl, rfl, SqL.of h2, rfl, rfl, _, _, rfl, d, hdj, ?_⟩⟩
   have e1 := Option.some.inj (h3.symm.trans hu.2.1)
   rcases h4 with ⟨rfl, rfl⟩ | ⟨e, d2, rfl, hd2, _, hup⟩
   ·have := Option.some.inj (hg.1.symm.trans h3)
    exact .inl ⟨rfl, by omega⟩
   ·have e2 := Option.some.inj (hd2.symm.trans h3)
    subst e2
    rw [e1] at hup
    refine .inr ⟨e, rfl, ?_⟩
    rw [show d - ((i + 1 : Nat) : Int) = d - (i : Int) - 1 by omega]
    exact hu.trans hup
 ·rintro σ X ⟨rfl, v, k3, rfl, hv⟩
  rw [show ((st.toNat : Nat) : Int) = st by omega] at hv
  exact ⟨_, rfl, q v hv⟩
def Fe : Sp := fun vs H Q _ => ∃ (r : Addr) (ds : List Int) (xs : List V) (way : Int) (i j : Nat), vs = [.ref r, .int way, .int (i : Int), .int (j : Int)] ∧ RWs H r ds xs ∧ bD ds ∧ ds.length ≤ 2048 ∧ i < ds.length ∧ j < ds.length ∧ 0 ≤ way ∧ way < 10 ∧ ∀ x, wH ds way i j x → Q x H
theorem ym (T : Tx K mg a) : bj P w K mg base CX0 2 a.f_law_due a.fd_law_due ["_law_rows_here", "_law_way", "_law_one", "_law_other"] Fe := by
 refine T.D_law_due.F.ok rF (fun vs H Q E h => ?_) (fun cdv A outer s H vs Q E hr h => ?_)
 ·obtain ⟨r, ds, xs, way, i, j, rfl, _⟩ := h
  rfl
 obtain ⟨r, ds, xs, way, i, j, rfl, hR, hg, hdl, hi, hj, hw0, hw1, q⟩ := h
 refine ⟨_, (aj (aW (aL jg (pv 1) ao (aN _)) (aq (aB (aQ aR (aQ aR (pv 0) (pv 2) (fun _ _ => rfl)) (pv 1) (fun _ _ => rfl)))) aM)
  (aj (aW (aL bY (pv 1) ao (aN _)) (aq (aB (aD T.D_law_up (zR T) (by decide) hr aK rfl (aa (pv 0) (aa (pv 2) (aa (az bJ (pv 3) (az aV (aQ aR (aQ aR (pv 0) (pv 2) (fun _ _ => rfl)) ao (fun _ _ => rfl)) ao)) ak)))))) aM)
  (aj (aW (aL bY (pv 1) ao (aN _)) (aq (aB (vV di di (pv 2) (pv 3) (az aV (pv 2) (aQ aR (aQ aR (pv 0) (pv 2) (fun _ _ => rfl)) ao (fun _ _ => rfl)))))) aM)
  (aj (jl PassesOwn.never (lw (qZ di di (pv 2) (pv 3) (az aV (pv 2) (aQ aR (aQ aR (pv 0) (pv 2) (fun _ _ => rfl)) ao (fun _ _ => rfl))))) (aq (aF (i := 2) rF.nd rfl (Or.inl rfl) (aQ aR (aQ aR (pv 0) (pv 2) (fun _ _ => rfl)) ao (fun _ _ => rfl)))))
  (aq (aB (pv 2))))))), ?_⟩
 obtain ⟨q1, d, el, fi, yo, ol, be, h1, h2, h3, h4, h5, h6, h7, h8⟩ := hR.at hi
 obtain ⟨d', hd', eb⟩ := h8.run hg
 have := Option.some.inj (hd'.symm.trans h3)
 subst this
 have hd0 := cR hg h3
 have hw : way = 0 ∨ way = 1 ∨ way = 2 ∨ way = 3 ∨ way = 4 ∨ way = 5 ∨ way = 6 ∨ way = 7 ∨ way = 8 ∨ way = 9 := by omega
 rcases hw with rfl | rfl | rfl | rfl | rfl | rfl | rfl | rfl | rfl | rfl
 ·exact ⟨_, rfl, _, _, rfl, rfl, _, rfl, aP (fun _ => ⟨_, rfl, _, rfl, r, _, _, _, rfl, rfl, SqL.of hR.row, cH h1, _, rfl, q1, _, _, _, rfl, rfl, SqL.of h2, rfl, q _ (.inl ⟨rfl, d', h3, rfl⟩)⟩) fun c => absurd (by decide) c⟩
 ·exact ⟨_, rfl, _, _, rfl, rfl, _, rfl, aP (fun _ => ⟨_, rfl, _, rfl, r, _, _, _, rfl, rfl, SqL.of hR.row, cH h1, _, rfl, q1, _, _, _, rfl, rfl, SqL.of h2, rfl, q _ (.inr (.inl ⟨rfl, d', h3, rfl⟩))⟩) fun c => absurd (by decide) c⟩
 ·exact ⟨_, rfl, _, _, rfl, rfl, _, rfl, aP (fun _ => ⟨_, rfl, _, rfl, r, _, _, _, rfl, rfl, SqL.of hR.row, cH h1, _, rfl, q1, _, _, _, rfl, rfl, SqL.of h2, rfl, q _ (.inr (.inr (.inl ⟨rfl, h4.eld hg⟩)))⟩) fun c => absurd (by decide) c⟩
 ·exact ⟨_, rfl, _, _, rfl, rfl, _, rfl, aP (fun _ => ⟨_, rfl, _, rfl, r, _, _, _, rfl, rfl, SqL.of hR.row, cH h1, _, rfl, q1, _, _, _, rfl, rfl, SqL.of h2, rfl, q _ (.inr (.inr (.inr (.inl ⟨rfl, h5.fir⟩))))⟩) fun c => absurd (by decide) c⟩
 ·exact ⟨_, rfl, _, _, rfl, rfl, _, rfl, aP (fun _ => ⟨_, rfl, _, rfl, r, _, _, _, rfl, rfl, SqL.of hR.row, cH h1, _, rfl, q1, _, _, _, rfl, rfl, SqL.of h2, rfl, q _ (.inr (.inr (.inr (.inr (.inl ⟨rfl, h6.yo⟩)))))⟩) fun c => absurd (by decide) c⟩
 ·exact ⟨_, rfl, _, _, rfl, rfl, _, rfl, aP (fun _ => ⟨_, rfl, _, rfl, r, _, _, _, rfl, rfl, SqL.of hR.row, cH h1, _, rfl, q1, _, _, _, rfl, rfl, SqL.of h2, rfl, q _ (.inr (.inr (.inr (.inr (.inr (.inl ⟨rfl, h7⟩))))))⟩) fun c => absurd (by decide) c⟩
 ·exact ⟨_, rfl, _, _, rfl, rfl, _, rfl, aP (fun _ => ⟨_, rfl, _, rfl, r, _, _, _, rfl, rfl, SqL.of hR.row, cH h1, _, rfl, q1, _, _, _, rfl, rfl, SqL.of h2, rfl, q _ (.inr (.inr (.inr (.inr (.inr (.inr (.inl ⟨rfl, d', h3, congrArg V.int eb⟩)))))))⟩) fun c => absurd (by decide) c⟩
 ·refine ⟨_, rfl, _, _, rfl, rfl, _, rfl, aP (fun z => absurd z (by decide)) fun _ => ⟨_, rfl, rfl, _, rfl, aP (fun _ => ?_) fun c => absurd (by decide) c⟩⟩
  have m0 := Int.emod_nonneg (j : Int) (show d' + 2 ≠ 0 by omega)
  refine ⟨_, rfl, _, rfl, _, rfl, _, rfl, _, rfl, r, _, _, _, rfl, rfl, SqL.of hR.row, cH h1, q1, _, _, _, rfl, rfl, SqL.of h2, rfl, _, _, rfl, rfl, _, _, rfl, rfl, (by show (0 : Int) < d' + 2; omega), r, ds, xs, i, (j : Int) % (d' + 2), rfl, hR, hg, hi, m0, ?_, fun x hx => q x (.inr (.inr (.inr (.inr (.inr (.inr (.inr (.inl ⟨rfl, d', h3, hx⟩))))))))⟩
  exact Int.le_trans (Int.emod_le_of_nonneg' (show (0 : Int) ≤ (j : Int) by omega) _) (by omega)
 ·refine ⟨_, rfl, _, _, rfl, rfl, _, rfl, aP (fun z => absurd z (by decide)) fun _ => ⟨_, rfl, rfl, _, rfl, aP (fun z => absurd z (by decide)) fun _ => ⟨_, rfl, rfl, _, rfl, aP (fun _ => ?_) fun c => absurd (by decide) c⟩⟩⟩
  have ov := qM (ds := ds) h3 hj
  have qq : ∀ x, CG ds i j x → Q x H := fun x hx => q x (.inr (.inr (.inr (.inr (.inr (.inr (.inr (.inr (.inl ⟨rfl, hx⟩)))))))))
  refine ⟨_, rfl, _, rfl, _, _, rfl, rfl, _, rfl, aP (fun c => ?_) fun c => ?_⟩
  ·have c := of_decide_eq_true c
   refine ⟨_, rfl, _, rfl, _, rfl, r, _, _, _, rfl, rfl, SqL.of hR.row, cH h1, q1, _, _, _, rfl, rfl, SqL.of h2, rfl, _, _, rfl, rfl, _, _, rfl, rfl, ?_⟩
   rw [eb]
   refine qq _ ⟨d', h3, ?_⟩
   by_cases c2 : (j : Int) ≤ (i : Int) + ((run ds (i + 1) d' : Nat) : Int)
   ·exact .inl ⟨ov.mpr ⟨by omega, by omega⟩, congrArg V.bl (decide_eq_true c2)⟩
   ·exact .inr ⟨fun z => by have := ov.mp z; omega, congrArg V.bl (decide_eq_false c2)⟩
  ·have c : ¬ (i : Int) ≤ (j : Int) := fun z => c (decide_eq_true z)
   exact qq _ ⟨d', h3, .inr ⟨fun z => by have := ov.mp z; omega, rfl⟩⟩
 ·refine ⟨_, rfl, _, _, rfl, rfl, _, rfl, aP (fun z => absurd z (by decide)) fun _ => ⟨_, rfl, rfl, _, rfl, aP (fun z => absurd z (by decide)) fun _ => ⟨_, rfl, rfl, _, rfl, aP (fun z => absurd z (by decide)) fun _ => ?_⟩⟩⟩
  refine ⟨fun m σ X => X = H ∧ ∃ (c : Nat) (dc : Int), σ = [some (.ref r), some (.int 9), some (.int (c : Int)), some (.int (j : Int))] ∧ m = c ∧ UpN ds i dc c ∧ ∀ (y : Nat) (gy : Int), dc < gy → UpN ds i gy y → UpN ds j gy y → False, ⟨_, rfl, i, d', rfl, rfl, UpN.self h3, fun y gy hgy u _ => ?_⟩, ?_⟩
  ·rcases Nat.lt_or_ge y i with z | z
   ·have := u.2.2 i d' z (Nat.le_refl _) h3
    omega
   ·have : y = i := by have := u.1; omega
    subst this
    have := Option.some.inj (h3.symm.trans u.2.1)
    omega
  rintro m σ X ⟨rfl, c, dc, rfl, hmc, hc, hno⟩
  have hcl := (List.getElem?_eq_some_iff.mp hc.2.1).1
  obtain ⟨q2, d2, el2, fi2, yo2, ol2, be2, g1, g2, g3, g4, g5, g6, g7, g8⟩ := hR.at hcl
  have := Option.some.inj (g3.symm.trans hc.2.1)
  subst this
  obtain ⟨d3, hd3, eb2⟩ := g8.run hg
  have := Option.some.inj (hd3.symm.trans g3)
  subst this
  have ov := qM (ds := ds) g3 hj
  have fin : UpN ds j d3 c → Q (.int (c : Int)) X := fun u => q _ (.inr (.inr (.inr (.inr (.inr (.inr (.inr (.inr (.inr ⟨rfl, c, d3, rfl, hc, u, hno⟩)))))))))
  have go : ¬ UpN ds j d3 c → ∃ e : Nat, el2 = .int (e : Int) ∧ e < c ∧ UpN ds i (d3 - 1) e ∧ ∀ (y : Nat) (gy : Int), d3 - 1 < gy → UpN ds i gy y → UpN ds j gy y → False := fun hn => by
   rcases g4 with ⟨z, _⟩ | ⟨e, d4, rfl, hd4, _, hup⟩
   ·subst z
    have : d3 = 0 := (Option.some.inj (hg.1.symm.trans g3)).symm
    subst this
    exact absurd ⟨Nat.zero_le _, hg.1, fun m x m1 m2 ex => by have := hg.one m1 ex; omega⟩ hn
   ·have := Option.some.inj (hd4.symm.trans g3)
    subst this
    have hec : e < c := by
     rcases Nat.lt_or_ge e c with z | z
     ·exact z
     ·have h1 := hup.1
      have : e = c := by omega
      subst this
      have := Option.some.inj (hup.2.1.symm.trans g3)
      omega
    refine ⟨e, rfl, hec, hc.trans hup, fun y gy hgy u1 u2 => ?_⟩
    by_cases z : gy = d4
    ·subst z
     have := u1.uniq hc
     subst this
     exact hn u2
    ·exact hno y gy (by omega) u1 u2
  refine ⟨_, rfl, _, rfl, _, _, rfl, rfl, _, rfl, aP (fun c1 => ?_) fun c1 => ?_⟩
  ·have c1 := of_decide_eq_true c1
   refine ⟨_, rfl, _, rfl, _, rfl, r, _, _, _, rfl, rfl, SqL.of hR.row, cH g1, q2, _, _, _, rfl, rfl, SqL.of g2, rfl, _, _, rfl, rfl, _, _, rfl, rfl, _, rfl, ?_⟩
   rw [eb2]
   by_cases c2 : (j : Int) ≤ (c : Int) + ((run ds (c + 1) d3 : Nat) : Int)
   ·exact tH c2 ⟨_, rfl, fin (ov.mpr ⟨by omega, by omega⟩)⟩
   ·rw [decide_eq_false c2]
    obtain ⟨e, rfl, hec, u1, u2⟩ := go fun z => by have := ov.mp z; omega
    exact dN ⟨_, fun σ' H2 z => z, _, rfl, _, rfl, r, _, _, _, rfl, rfl, SqL.of hR.row, cH g1, q2, _, _, _, rfl, rfl, SqL.of g2, rfl, e, by omega, rfl, e, _, rfl, rfl, u1, u2⟩
  ·have c1 : ¬ (c : Int) ≤ (j : Int) := fun z => c1 (decide_eq_true z)
   obtain ⟨e, rfl, hec, u1, u2⟩ := go fun z => by have := ov.mp z; omega
   exact ⟨_, rfl, dN ⟨_, fun σ' H2 z => z, _, rfl, _, rfl, r, _, _, _, rfl, rfl, SqL.of hR.row, cH g1, q2, _, _, _, rfl, rfl, SqL.of g2, rfl, e, by omega, rfl, e, _, rfl, rfl, u1, u2⟩⟩
def Dh : Sp := fun vs H Q _ => ∃ x : V, vs = [x, x] ∧ (x = .non ∨ (∃ b, x = .bl b) ∨ ∃ n, x = .int n) ∧ Q (.bl true) H
theorem ww (T : Tx K mg a) : bj P w K mg base CX0 2 a.f_law_same a.fd_law_same ["_law_found", "_law_due_here"] Dh := by
 refine T.D_law_same.F.ok vG (fun vs H Q E h => ?_) (fun cdv A outer s H vs Q E hr h => ?_)
 ·obtain ⟨x, rfl, _⟩ := h
  rfl
 obtain ⟨x, rfl, hx, q⟩ := h
 refine ⟨_, (aj (aW (fV (iD (pv 1))) (aq (aB (Ep (iD (pv 0))))) aM)
  (aj (aW (ux (aU mG rfl T.b_isinstance Tw.dX (aa (pv 1) (aa (pY (v := .ty "bool") rfl T.b_bool Tw.uG rfl) ak)))) (aq (aB (nZ (aU mG rfl T.b_isinstance Tw.dX (aa (pv 0) (aa (pY (v := .ty "bool") rfl T.b_bool Tw.uG rfl) ak))) (nW (iM bY (pv 0) (pv 1) (aN _)))))) aM)
  (aq (aB (nZ (aD T.D_law_whole (lW T) (by decide) hr aK rfl (aa (pv 0) ak)) (nW (iM bY (pv 0) (pv 1) (aN _)))))))), ?_⟩
 rcases hx with rfl | ⟨b, rfl⟩ | ⟨n, rfl⟩
 ·exact ⟨_, rfl, _, rfl, dN ⟨_, rfl, q⟩⟩
 ·refine ⟨_, rfl, _, rfl, cW ⟨_, rfl, _, "bool", _, true, rfl, .bl b, rfl, true, rfl, dN ⟨_, rfl, _, "bool", _, true, rfl, .bl b, rfl, true, rfl, dN ⟨_, rfl, _, rfl, rfl, ?_⟩⟩⟩⟩
  show Q (.bl (decide (V.bl b = V.bl b))) H
  rw [decide_eq_true rfl]
  exact q
 ·refine ⟨_, rfl, _, rfl, cW ⟨_, rfl, _, "bool", _, false, rfl, .int n, rfl, false, rfl, cW ⟨_, rfl, n, rfl, true, rfl, dN ⟨_, rfl, _, rfl, rfl, ?_⟩⟩⟩⟩
  show Q (.bl (decide (V.int n = V.int n))) H
  rw [decide_eq_true rfl]
  exact q
def Cd (Ph : Addr) : Sp := fun vs H Q _ => ∃ (p : BP) (ds : List Int) (way : Int) (i j : Nat), vs = [.ref p.t, .ref p.f, .int way, .int (i : Int), .int (j : Int)] ∧ Nd H Ph p [] ds ∧ i < ds.length ∧ j < ds.length ∧ 0 ≤ way ∧ way < 10 ∧ way ≠ 7 ∧ ∀ x ss' H', wH ds way i j x → Did H H' Ph p.sn (many p.ns.length) 12 [] ss' → (ss'.length : Int) ≤ 8 + way / 9 * 4 → Q x H'
theorem u5 (T : Tx K mg a) (B : Bs mg base a) : bj P w K mg base CX0 12 a.f_law_asked a.fd_law_asked ["_law_tables", "_law_look_here", "_law_way", "_law_one", "_law_other"] (Cd a.tP_heap_look) := by
 refine T.D_law_asked.F.ok uz (fun vs H Q E h => ?_) (fun cdv A outer s H vs Q E hr h => ?_)
 ·obtain ⟨p, ds, way, i, j, rfl, _⟩ := h
  rfl
 obtain ⟨p, ds, way, i, j, rfl, hN, hi, hj, hw0, hw1, hw7, q⟩ := h
 refine ⟨_, (aj (aW (aL bY (pv 2) ao (aN _)) (aq (aB (aD T.D_place_of (cA T) (by decide) hr j5 rfl (aa (pv 0) (aa (pv 1) (aa (pv 3) ak)))))) aM)
  (aj (aW (aL bY (pv 2) ao (aN _)) (aq (aB (aD T.D_depth_of (wB T) (by decide) hr j5 rfl (aa (pv 0) (aa (pv 1) (aa (pv 3) ak)))))) aM)
  (aj (aW (aL bY (pv 2) ao (aN _)) (aq (aB (aD T.D_elder_of (vL T B) (by decide) hr j5 rfl (aa (pv 0) (aa (pv 1) (aa (pv 3) ak)))))) aM)
  (aj (aW (aL bY (pv 2) ao (aN _)) (aq (aB (aD T.D_first_of (v5 T) (by decide) hr j5 rfl (aa (pv 0) (aa (pv 1) (aa (pv 3) ak)))))) aM)
  (aj (aW (aL bY (pv 2) ao (aN _)) (aq (aB (aD T.D_younger_of (rT T B) (by decide) hr j5 rfl (aa (pv 0) (aa (pv 1) (aa (pv 3) ak)))))) aM)
  (aj (aW (aL bY (pv 2) ao (aN _)) (aq (aB (aD T.D_older_of (wz T B) (by decide) hr j5 rfl (aa (pv 0) (aa (pv 1) (aa (pv 3) ak)))))) aM)
  (aj (aW (aL bY (pv 2) ao (aN _)) (aq (aB (aD T.D_beneath_of (j7 T B) (by decide) hr j5 rfl (aa (pv 0) (aa (pv 1) (aa (pv 3) ak)))))) aM)
  (aj (aW (aL bY (pv 2) ao (aN _)) (aq (aB (aD T.D_is_over (xM T B) (by decide) hr j5 rfl (aa (pv 0) (aa (pv 1) (aa (pv 3) (aa (pv 4) ak))))))) aM)
  (aq (aB (aD T.D_common_of (uo T B) (by decide) hr j5 rfl (aa (pv 0) (aa (pv 1) (aa (pv 3) (aa (pv 4) ak))))))))))))))), ?_⟩
 have hw : way = 0 ∨ way = 1 ∨ way = 2 ∨ way = 3 ∨ way = 4 ∨ way = 5 ∨ way = 6 ∨ way = 8 ∨ way = 9 := by omega
 rcases hw with rfl | rfl | rfl | rfl | rfl | rfl | rfl | rfl | rfl
 ·refine ⟨_, rfl, rfl, _, rfl, aP (fun _ => ⟨_, rfl, _, rfl, _, rfl, p, [], ds, (i : Int), rfl, hN, .inl ⟨i, rfl, hi, fun x ss1 H1 hx1 hx2 d1 => ?_⟩⟩) fun c => absurd (by decide) c⟩
  have l1 := d1.wr.len
  simp at l1
  refine q _ ss1 H1 (.inl ⟨rfl, _, hN.deep hx1 hx2, congrArg V.int ?_⟩) (d1.le (by decide)) (by omega)
  have : ht p.ns x = 2 * (p.ns.take x).sum - (x : Int) := rfl
  omega
 ·refine ⟨_, rfl, rfl, _, rfl, aP (fun z => absurd z (by decide)) fun _ => ⟨_, rfl, rfl, _, rfl, aP (fun _ => ⟨_, rfl, _, rfl, _, rfl, p, [], ds, (i : Int), rfl, hN, .inl ⟨i, rfl, hi, fun x ss1 H1 hx d1 => ?_⟩⟩) fun c => absurd (by decide) c⟩⟩
  have l1 := d1.wr.len
  simp at l1
  exact q _ ss1 H1 (.inr (.inl ⟨rfl, hx⟩)) (d1.le (by decide)) (by omega)
 ·refine ⟨_, rfl, rfl, _, rfl, aP (fun z => absurd z (by decide)) fun _ => ⟨_, rfl, rfl, _, rfl, aP (fun z => absurd z (by decide)) fun _ => ⟨_, rfl, rfl, _, rfl, aP (fun _ => ⟨_, rfl, _, rfl, _, rfl, p, [], ds, (i : Int), rfl, hN, .inl ⟨i, rfl, hi, fun x ss1 H1 hx d1 => ?_⟩⟩) fun c => absurd (by decide) c⟩⟩⟩
  have l1 := d1.wr.len
  simp at l1
  exact q _ ss1 H1 (.inr (.inr (.inl ⟨rfl, hx⟩))) (d1.le (by decide)) (by omega)
 ·refine ⟨_, rfl, rfl, _, rfl, aP (fun z => absurd z (by decide)) fun _ => ⟨_, rfl, rfl, _, rfl, aP (fun z => absurd z (by decide)) fun _ => ⟨_, rfl, rfl, _, rfl, aP (fun z => absurd z (by decide)) fun _ => ⟨_, rfl, rfl, _, rfl, aP (fun _ => ⟨_, rfl, _, rfl, _, rfl, p, [], ds, (i : Int), rfl, hN, .inl ⟨i, rfl, hi, fun x ss1 H1 hx d1 => ?_⟩⟩) fun c => absurd (by decide) c⟩⟩⟩⟩
  have l1 := d1.wr.len
  simp at l1
  exact q _ ss1 H1 (.inr (.inr (.inr (.inl ⟨rfl, hx⟩)))) (d1.le (by decide)) (by omega)
 ·refine ⟨_, rfl, rfl, _, rfl, aP (fun z => absurd z (by decide)) fun _ => ⟨_, rfl, rfl, _, rfl, aP (fun z => absurd z (by decide)) fun _ => ⟨_, rfl, rfl, _, rfl, aP (fun z => absurd z (by decide)) fun _ => ⟨_, rfl, rfl, _, rfl, aP (fun z => absurd z (by decide)) fun _ => ⟨_, rfl, rfl, _, rfl, aP (fun _ => ⟨_, rfl, _, rfl, _, rfl, p, [], ds, (i : Int), rfl, hN, .inl ⟨i, rfl, hi, fun x ss1 H1 hx d1 => ?_⟩⟩) fun c => absurd (by decide) c⟩⟩⟩⟩⟩
  have l1 := d1.wr.len
  simp at l1
  exact q _ ss1 H1 (.inr (.inr (.inr (.inr (.inl ⟨rfl, hx⟩))))) (d1.le (by decide)) (by omega)
 ·refine ⟨_, rfl, rfl, _, rfl, aP (fun z => absurd z (by decide)) fun _ => ⟨_, rfl, rfl, _, rfl, aP (fun z => absurd z (by decide)) fun _ => ⟨_, rfl, rfl, _, rfl, aP (fun z => absurd z (by decide)) fun _ => ⟨_, rfl, rfl, _, rfl, aP (fun z => absurd z (by decide)) fun _ => ⟨_, rfl, rfl, _, rfl, aP (fun z => absurd z (by decide)) fun _ => ⟨_, rfl, rfl, _, rfl, aP (fun _ => ⟨_, rfl, _, rfl, _, rfl, p, [], ds, (i : Int), rfl, hN, .inl ⟨i, rfl, hi, fun x ss1 H1 hx d1 => ?_⟩⟩) fun c => absurd (by decide) c⟩⟩⟩⟩⟩⟩
  have l1 := d1.wr.len
  simp at l1
  exact q _ ss1 H1 (.inr (.inr (.inr (.inr (.inr (.inl ⟨rfl, hx⟩)))))) (d1.le (by decide)) (by omega)
 ·refine ⟨_, rfl, rfl, _, rfl, aP (fun z => absurd z (by decide)) fun _ => ⟨_, rfl, rfl, _, rfl, aP (fun z => absurd z (by decide)) fun _ => ⟨_, rfl, rfl, _, rfl, aP (fun z => absurd z (by decide)) fun _ => ⟨_, rfl, rfl, _, rfl, aP (fun z => absurd z (by decide)) fun _ => ⟨_, rfl, rfl, _, rfl, aP (fun z => absurd z (by decide)) fun _ => ⟨_, rfl, rfl, _, rfl, aP (fun z => absurd z (by decide)) fun _ => ⟨_, rfl, rfl, _, rfl, aP (fun _ => ⟨_, rfl, _, rfl, _, rfl, p, [], ds, (i : Int), rfl, hN, .inl ⟨i, rfl, hi, fun x ss1 H1 hx d1 => ?_⟩⟩) fun c => absurd (by decide) c⟩⟩⟩⟩⟩⟩⟩
  have l1 := d1.wr.len
  simp at l1
  exact q _ ss1 H1 (.inr (.inr (.inr (.inr (.inr (.inr (.inl ⟨rfl, hx⟩))))))) (d1.le (by decide)) (by omega)
 ·refine ⟨_, rfl, rfl, _, rfl, aP (fun z => absurd z (by decide)) fun _ => ⟨_, rfl, rfl, _, rfl, aP (fun z => absurd z (by decide)) fun _ => ⟨_, rfl, rfl, _, rfl, aP (fun z => absurd z (by decide)) fun _ => ⟨_, rfl, rfl, _, rfl, aP (fun z => absurd z (by decide)) fun _ => ⟨_, rfl, rfl, _, rfl, aP (fun z => absurd z (by decide)) fun _ => ⟨_, rfl, rfl, _, rfl, aP (fun z => absurd z (by decide)) fun _ => ⟨_, rfl, rfl, _, rfl, aP (fun z => absurd z (by decide)) fun _ => ⟨_, rfl, rfl, _, rfl, aP (fun _ => ⟨_, rfl, _, rfl, _, rfl, _, rfl, p, [], ds, (i : Int), (j : Int), rfl, hN, by simp, .inl ⟨i, j, rfl, rfl, hi, hj, fun x ss1 H1 hx d1 => ?_⟩⟩) fun c => absurd (by decide) c⟩⟩⟩⟩⟩⟩⟩⟩
  have l1 := d1.wr.len
  simp at l1
  exact q _ ss1 H1 (.inr (.inr (.inr (.inr (.inr (.inr (.inr (.inr (.inl ⟨rfl, hx⟩))))))))) (d1.le (by decide)) (by omega)
 ·refine ⟨_, rfl, rfl, _, rfl, aP (fun z => absurd z (by decide)) fun _ => ⟨_, rfl, rfl, _, rfl, aP (fun z => absurd z (by decide)) fun _ => ⟨_, rfl, rfl, _, rfl, aP (fun z => absurd z (by decide)) fun _ => ⟨_, rfl, rfl, _, rfl, aP (fun z => absurd z (by decide)) fun _ => ⟨_, rfl, rfl, _, rfl, aP (fun z => absurd z (by decide)) fun _ => ⟨_, rfl, rfl, _, rfl, aP (fun z => absurd z (by decide)) fun _ => ⟨_, rfl, rfl, _, rfl, aP (fun z => absurd z (by decide)) fun _ => ⟨_, rfl, rfl, _, rfl, aP (fun z => absurd z (by decide)) fun _ => ⟨_, rfl, _, rfl, _, rfl, _, rfl, p, [], ds, (i : Int), (j : Int), rfl, hN, by simp, .inl ⟨i, j, rfl, rfl, hi, hj, fun x ss1 H1 hx d1 => ?_⟩⟩⟩⟩⟩⟩⟩⟩⟩⟩
  have l1 := d1.wr.len
  simp at l1
  exact q _ ss1 H1 (.inr (.inr (.inr (.inr (.inr (.inr (.inr (.inr (.inr ⟨rfl, hx⟩))))))))) (d1.le (by decide)) (by omega)
def Er : Sp := fun vs H Q _ => ∃ (sn bl : Addr) (ss : List Int) (xs : List V) (most : Int), vs = [.ref sn, .ref bl, .int most] ∧ H sn = some (.lst (ss.map V.int)) ∧ H bl = some (.lst xs) ∧ (∀ x ∈ ss, 0 ≤ x ∧ x < xs.length) ∧ (ss.length : Int) ≤ most ∧ ss.length ≤ 1000 ∧ ∀ H', aY H H' → Q (.bl true) H'
theorem xn (T : Tx K mg a) : bj P w K mg base CX0 2 a.f_law_few a.fd_law_few ["_law_seen", "_law_blocks", "_law_most"] Er := by
 refine T.D_law_few.F.ok rC (fun vs H Q E h => ?_) (fun cdv A outer s H vs Q E hr h => ?_)
 ·obtain ⟨sn, bl, ss, xs, most, rfl, _⟩ := h
  rfl
 obtain ⟨sn, bl, ss, xs, most, rfl, h1, h2, hx, hm, hl, q⟩ := h
 refine ⟨_, (aj (cB PassesOwn.never rfl (dw (pv 0)) (bw (i := 3) rC.nd rfl (Or.inl rfl)) (aq (aW (PW.pt (pq (lw (ux (aD T.D_law_whole (lW T) (by decide) hr aK rfl (aa (pv 3) ak)))) (pq (aL jg (pv 3) ao (aN _)) (lA (aL tZ (pv 3) (aU bc rfl T.b_len Tw.cG (aa (pv 1) ak)) (aN _)))))) (aq (aB zg)) aM)))
  (aq (aB (iM di (aU rP rfl T.b_len Tw.cG (aa (fL (sG rfl) rfl T.b_set Tw.Fi (aa (pv 0) ak)) ak)) (pv 2) (aN _))))), ?_⟩
 refine ⟨_, rfl, sn, rfl, ⟨_, SqL.of h1⟩, ?_⟩
 refine dG (xs := ss.map V.int) (fun i σ H2 => (∃ k, σ = [some (.ref sn), some (.ref bl), some (.int most), k]) ∧ aY H H2) ⟨⟨none, rfl⟩, aY.refl _⟩ ?_ ?_ ?_
 ·rintro i σ H2 _ ⟨_, sm⟩
  exact SqL.of (sm _ _ h1)
 ·rintro i x σ H2 hx' ⟨⟨k, rfl⟩, sm⟩
  obtain ⟨z, hz, rfl⟩ := int_at hx'
  have hcx := hx z (List.mem_of_getElem? hz)
  refine ⟨_, rfl, z, rfl, true, rfl, cW ?_⟩
  refine ⟨_, rfl, _, _, rfl, rfl, _, rfl, aP (fun y => ?_) fun _ => ?_⟩
  ·have y := of_decide_eq_true y
   omega
  refine ⟨_, rfl, _, rfl, bl, _, rfl, .inl (SqL.of (sm _ _ h2)), _, _, rfl, rfl, _, rfl, aP (fun y => ?_) fun _ => ?_⟩
  ·have y := of_decide_eq_true y
   omega
  exact ⟨⟨_, rfl⟩, sm⟩
 ·rintro σ H2 ⟨⟨k, rfl⟩, sm⟩
  refine ⟨_, rfl, sn, ss, rfl, SqL.of (sm _ _ h1), (by show ss.length + 1 < 4096; omega), fun l S n hl' hn => ?_⟩
  refine ⟨l, S, n, rfl, au, by omega, _, rfl, _, _, rfl, rfl, ?_⟩
  show Q (.bl (decide ((n : Int) ≤ most))) _
  rw [decide_eq_true (show (n : Int) ≤ most from by omega)]
  exact q _ (sm.trans (aA hl' _))
def Kt (Ph Pt : Addr) (H X : Hp) : Prop := ∀ b o, H b = some o → b ≠ Ph → b ≠ Pt → X b = some o
structure jn (X : Hp) (tp : Addr) (ds : List Int) (t ah nd bl r : Addr) (lows : List Int) (S : Nat) (xs rx : List V) : Prop where
 tup : X tp = some (.tup [.ref t, .ref bl, .ref r])
 kb : KB X t ah nd bl (brk ds 0) lows S xs
 rows : RWs X r ds rx
 good : bD ds
 few : ds.length ≤ 2048
theorem TabAt.other {X Y : Hp} {Ph Pt : Addr} {pos pos' : Pos} {q q' : Str} (nn : Ph ≠ Pt) (h : TabAt X Ph pos q) (hT : TabAt X Pt pos' q') (b : yL Pt X Y) : TabAt Y Ph pos q := by
 obtain ⟨ps, z1, z2, z3⟩ := h
 refine ⟨ps, b _ _ z1 nn, z2, ?_⟩
 rcases z3 with z3 | ⟨cd, oc, vs, tk, z4, z5, z6⟩
 ·exact .inl z3
 ·exact .inr ⟨cd, oc, vs, tk, z4, b _ _ z5 (TabAt.ne hT z5 nofun), z6⟩
theorem TabAt.kq {X Y : Hp} {Ph Pt sn : Addr} {pos pos' : Pos} {q q' : Str} {xs : List V} (nn : Pt ≠ Ph) (h : TabAt X Pt pos q) (hT : TabAt X Ph pos' q') (hs : X sn = some (.lst xs)) (b : Kq Ph sn X Y) : TabAt Y Pt pos q := by
 obtain ⟨ps, z1, z2, z3⟩ := h
 refine ⟨ps, b _ _ z1 nn (fun z => by rw [z, hs] at z1; cases z1), z2, ?_⟩
 rcases z3 with z3 | ⟨cd, oc, vs, tk, z4, z5, z6⟩
 ·exact .inl z3
 ·exact .inr ⟨cd, oc, vs, tk, z4, b _ _ z5 (TabAt.ne hT z5 nofun) (fun z => by rw [z, hs] at z5; cases z5), z6⟩
def Dc (Ph Pt : Addr) : Sp := fun vs H Q _ => ∃ (tp : Addr) (z : Int) (ds : List Int) (t ah nd bl r : Addr) (lows : List Int) (S : Nat) (xs rx : List V), vs = [.ref tp, .int z] ∧ jn H tp ds t ah nd bl r lows S xs rx ∧ TabAt H Ph (gh bH) bh.qual ∧ TabAt H Pt (p7 cQ) bA.qual ∧
 ∀ H', Kt Ph Pt H H' → TabAt H' Ph (gh bH) bh.qual → TabAt H' Pt (p7 cQ) bA.qual → Q (.bl true) H'
theorem vJ (T : Tx K mg a) (B : Bs mg base a) : bj P w K mg base CX0 13 a.f_law_good a.fd_law_good ["_law_tree", "_law_cell"] (Dc a.tP_heap_look a.tP_law_look) := by
 refine T.D_law_good.F.ok bI (fun vs H Q E h => ?_) (fun cdv A outer s H vs Q E hr h => ?_)
 ·obtain ⟨tp, z, ds, t, ah, nd, bl, r, lows, S, xs, rx, rfl, _⟩ := h
  rfl
 obtain ⟨tp, z, ds, t, ah, nd, bl, r, lows, S, xs, rx, rfl, hA, hTh, hT, q⟩ := h
 refine ⟨_, (aj (oM (pv 0) (ju rfl (bQ (bw (i := 2) bI.nd rfl (Or.inl rfl)) (bQ (bw (i := 3) bI.nd rfl (Or.inl rfl)) (bQ (bw (i := 4) bI.nd rfl (Or.inl rfl)) gr)))))
  (aj (aF (i := 5) bI.nd rfl (Or.inl rfl) (az bJ (az b8 (pv 1) ao) ao))
  (aj (aF (i := 6) bI.nd rfl (Or.inl rfl) (uK (az bJ (az cg (pv 5) ao) ao)))
  (aj (aF (i := 7) bI.nd rfl (Or.inl rfl) (uK (az bJ (az bJ (az b8 (pv 1) ao) ao) (aU bc rfl T.b_len Tw.cG (aa (pv 4) ak)))))
  (aj (aF (i := 8) bI.nd rfl (Or.inl rfl) (uK (az bJ (az bJ (az b8 (pv 1) ao) ao) (aU bc rfl T.b_len Tw.cG (aa (pv 4) ak)))))
  (aj (aF (i := 9) bI.nd rfl (Or.inl rfl) (cD ak))
  (aj (aF (i := 10) bI.nd rfl (Or.inl rfl) (aD T.D_law_look (wJ T B) (by decide) hr aK rfl (aa (pv 3) (aa (pv 9) ak))))
  (uN (aW (aL bY (pv 6) ao (aN _)) (aq (aF (i := 11) bI.nd rfl (Or.inl rfl) (aD T.D_up_of (qG T B) (by decide) hr j5 rfl (aa (pv 2) (aa (pv 10) (aa (pv 7) (aa (az bJ (pv 8) (az aV (aQ aR (aQ aR (pv 4) (pv 7) (fun _ _ => rfl)) ao (fun _ _ => rfl)) ao)) ak))))))) (aq (aF (i := 11) bI.nd rfl (Or.inl rfl) (aD T.D_law_asked (u5 T B) (by decide) hr aK rfl (aa (pv 2) (aa (pv 10) (aa (pv 6) (aa (pv 7) (aa (pv 8) ak)))))))))
  (aq (aB (nZ (aD T.D_law_same (ww T) (by decide) hr aK rfl (aa (pv 11) (aa (aD T.D_law_due (ym T) (by decide) hr aK rfl (aa (pv 4) (aa (pv 6) (aa (pv 7) (aa (pv 8) ak))))) ak))) (nW (aD T.D_law_few (xn T) (by decide) hr aK rfl (aa (pv 9) (aa (pv 3) (aa (az aV ao (az b8 (az cg (pv 6) ao) ao)) ak)))))))))))))))), ?_⟩
 have nn := B.N_heap_look_law_look
 have hlen := jW hA.good
 have hfew := hA.few
 have h0 : 0 < ds.length := (List.getElem?_eq_some_iff.mp hA.good.1).1
 have erx := hA.rows.len
 refine ⟨_, rfl, tp, _, rfl, SqT.of hA.tup, rfl, _, _, rfl, _, _, rfl, _, _, rfl, rfl, ?_⟩
 refine ⟨_, rfl, _, _, rfl, rfl, .inr ⟨by decide, by decide⟩, _, _, rfl, rfl, (by show (0 : Int) < 2147483587; decide), ?_⟩
 refine ⟨fun v Y => H = Y ∧ ∃ way : Int, v = .int way ∧ 0 ≤ way ∧ way < 10, ⟨_, rfl, _, _, rfl, rfl, ⟨by decide, by decide⟩, _, _, rfl, rfl, (by show (0 : Int) < 10; decide), rfl, _, rfl, by omega, by omega⟩, ?_⟩
 rintro v Y ⟨rfl, way, rfl, hw0, hw1⟩
 have hnode : ∀ v : Int, ∀ m : Int, v = m % ((rx.length : Int)) → 0 ≤ v ∧ v < ds.length := fun v m e => by
  rw [e, erx]
  exact ⟨Int.emod_nonneg _ (by omega), Int.emod_lt_of_pos _ (by omega)⟩
 refine ⟨fun v Y => H = Y ∧ ∃ n : Nat, v = .int (n : Int) ∧ n < ds.length, ⟨_, rfl, _, _, rfl, rfl, .inr ⟨by decide, by decide⟩, _, _, rfl, rfl, (by show (0 : Int) < 2147483629; decide), _, rfl, r, _, rfl, .inl (SqL.of hA.rows.row), _, _, rfl, rfl, (by show (0 : Int) < _; omega), rfl, (z * 69621 % 2147483629 % (rx.length : Int)).toNat, ?_, ?_⟩, ?_⟩
 ·have := hnode _ _ (rfl : z * 69621 % 2147483629 % (rx.length : Int) = _)
  exact congrArg V.int (by omega)
 ·have := hnode _ _ (rfl : z * 69621 % 2147483629 % (rx.length : Int) = _)
  omega
 rintro v Y ⟨rfl, n1, rfl, hn1⟩
 refine ⟨fun v Y => H = Y ∧ ∃ n : Nat, v = .int (n : Int) ∧ n < ds.length, ⟨_, rfl, _, _, rfl, rfl, .inr ⟨by decide, by decide⟩, _, _, rfl, rfl, (by show (0 : Int) < 2147483579; decide), _, rfl, r, _, rfl, .inl (SqL.of hA.rows.row), _, _, rfl, rfl, (by show (0 : Int) < _; omega), rfl, (z * 16807 % 2147483579 % (rx.length : Int)).toNat, ?_, ?_⟩, ?_⟩
 ·have := hnode _ _ (rfl : z * 16807 % 2147483579 % (rx.length : Int) = _)
  exact congrArg V.int (by omega)
 ·have := hnode _ _ (rfl : z * 16807 % 2147483579 % (rx.length : Int) = _)
  omega
 rintro v Y ⟨rfl, n2, rfl, hn2⟩
 refine ⟨(by show 0 ≤ sizeLine; decide), fun sn hsn => ?_⟩
 have s5 := aA hsn (.lst [])
 have xsn5 : upd H sn (.lst []) sn = some (.lst []) := au
 have hT5 := TabAt.same hT s5
 have hTh5 := TabAt.same hTh s5
 generalize upd H sn (.lst []) = H5 at *
 refine ⟨_, rfl, _, rfl, bl, sn, rfl, hT5, fun f H6 nf b6 hT6 L6 => ?_⟩
 have o6 : ∀ b o, H b = some o → (∀ ps, o ≠ .tbl ps) → H6 b = some o ∧ b ≠ a.tP_heap_look ∧ b ≠ sn := fun b o e n => ⟨b6 b o (s5 _ _ e) (TabAt.ne hT e n), TabAt.ne hTh e n, aJ e hsn⟩
 have xsn6 : H6 sn = some (.lst []) := b6 _ _ xsn5 (TabAt.ne hT5 xsn5 nofun)
 have hTh6 : TabAt H6 a.tP_heap_look (gh bH) bh.qual := TabAt.other nn hTh5 hT5 b6
 have kb4 := hA.kb
 have hB6 : Brk H6 a.tP_heap_look ⟨t, f, sn, bl, ah, nd, brk ds 0, lows, S, xs⟩ [] := ⟨⟨⟨(o6 _ _ kb4.tab.tup nofun).1, (o6 _ _ kb4.tab.ahs nofun).1, kb4.tab.few⟩, ⟨L6, xsn6, (o6 _ _ kb4.bls nofun).1, (aJ kb4.bls hsn).symm, by simp⟩, lr _ _, (by show (brk ds 0).length ≤ 4096; omega)⟩, (o6 _ _ kb4.nds nofun).1, kb4.low, kb4.sz, kb4.heap, hTh6⟩
 have hN6 : Nd H6 a.tP_heap_look ⟨t, f, sn, bl, ah, nd, brk ds 0, lows, S, xs⟩ [] ds := ⟨hB6, by simp, rfl, hA.good⟩
 have hR6 : RWs H6 r ds rx := hA.rows.kept (o6 _ _ hA.rows.row nofun).1 fun j q ys _ e => (o6 _ _ e nofun).1
 refine ⟨fun σ' Y => ∃ (x : V) (ss : List Int) (k5 : Option V), σ' = [some (.ref tp), some (.int z), some (.ref t), some (.ref bl), some (.ref r), k5, some (.int way), some (.int (n1 : Int)), some (.int (n2 : Int)), some (.ref sn), some (.ref f), some x] ∧ wH ds way n1 n2 x ∧ Did H6 Y a.tP_heap_look sn (many (brk ds 0).length) 12 [] ss ∧ (ss.length : Int) ≤ 8 + way / 9 * 4, ?_, ?_⟩
 ·refine ⟨_, rfl, rfl, _, rfl, aP (fun c => ?_) fun c => ?_⟩
  ·have c : V.int way = V.int 7 := of_decide_eq_true c
   injection c with c
   obtain ⟨q1, d, el, fi, yo, ol, be, h1, h2, h3, _⟩ := hR6.at hn1
   have hd0 := cR hA.good h3
   have m0 := Int.emod_nonneg (n2 : Int) (show d + 2 ≠ 0 by omega)
   refine ⟨_, rfl, _, rfl, _, rfl, _, rfl, _, rfl, _, rfl, r, _, _, _, rfl, rfl, SqL.of hR6.row, cH h1, q1, _, _, _, rfl, rfl, SqL.of h2, rfl, _, _, rfl, rfl, _, _, rfl, rfl, (by show (0 : Int) < d + 2; omega), ⟨t, f, sn, bl, ah, nd, brk ds 0, lows, S, xs⟩, [], ds, (n1 : Int), (n2 : Int) % (d + 2), rfl, hN6, .inl ⟨n1, rfl, hn1, m0, fun x ss1 H7 hx d1 => ?_⟩⟩
   have l1 := d1.wr.len
   simp at l1
   exact ⟨x, ss1, _, rfl, .inr (.inr (.inr (.inr (.inr (.inr (.inr (.inl ⟨c, d, h3, hx⟩))))))), d1.le (by decide), by omega⟩
  ·have c : way ≠ 7 := fun e => c (decide_eq_true (congrArg V.int e))
   exact ⟨_, rfl, _, rfl, _, rfl, _, rfl, _, rfl, ⟨t, f, sn, bl, ah, nd, brk ds 0, lows, S, xs⟩, ds, way, n1, n2, rfl, hN6, hn1, hn2, hw0, hw1, c, fun x ss1 H7 hx d1 hl => ⟨x, ss1, _, rfl, hx, d1, hl⟩⟩
 rintro σ' Y ⟨x, ss, k5, rfl, hx, d1, hl⟩
 have hR7 : RWs Y r ds rx := hA.rows.kept (by obtain ⟨e1, e2, e3⟩ := o6 _ _ hA.rows.row nofun; exact d1.kp _ _ e1 e2 e3) fun j q ys _ e => by obtain ⟨e1, e2, e3⟩ := o6 _ _ e nofun; exact d1.kp _ _ e1 e2 e3
 have l1 := d1.wr.len
 simp at l1
 have hN7 := hN6.did d1 (by omega)
 obtain ⟨w1, w2⟩ := En d1.wr (m := ((cV (brk ds 0)).map V.int).length) (by rw [List.length_map, fJ])
 refine ⟨_, rfl, _, rfl, _, rfl, _, rfl, _, rfl, r, ds, rx, way, n1, n2, rfl, hR7, hA.good, hfew, hn1, hn2, hw0, hw1, fun y hy => ?_⟩
 have := hx.uniq hA.good hy
 subst this
 refine ⟨x, rfl, hx.kind, true, rfl, dN ⟨_, rfl, _, rfl, _, rfl, _, _, rfl, rfl, ⟨by decide, by decide⟩, _, _, rfl, rfl, .inr ⟨by decide, by decide⟩, _, _, rfl, rfl, sn, bl, ss, _, 8 + way / 9 * 4, rfl, hN7.b.ask.asks.seen, hN7.b.ask.asks.nodes, w1, hl, by omega, fun Y2 s2 => q Y2 (fun b o e n1 n2 => s2 _ _ (d1.kp b o (b6 b o (s5 _ _ e) n2) n1 (aJ e hsn))) (TabAt.same hN7.b.tab s2) (TabAt.same (TabAt.kq nn.symm hT6 hTh6 xsn6 d1.kp) s2)⟩⟩
def zF : Sp := fun vs H Q _ => ∃ (p : Addr) (zs : List Int), vs = [.ref p] ∧ H p = some (.lst (zs.map V.int)) ∧ zs.length ≤ 63 ∧ ∀ (r : Addr) (H' : Hp) (ds : List Int), H r = none → aY H H' → H' r = some (.lst (ds.map V.int)) → bD ds → ds.length ≤ 400 → Q (.ref r) H'
theorem su (T : Tx K mg a) : bj P w K mg base CX0 1 a.f_law_depths a.fd_law_depths ["_law_cells"] zF := by
 refine T.D_law_depths.F.ok bB (fun vs H Q E h => ?_) (fun cdv A outer s H vs Q E hr h => ?_)
 ·obtain ⟨p, zs, rfl, _⟩ := h
  rfl
 obtain ⟨p, zs, rfl, hS, hl, q⟩ := h
 refine ⟨_, (aj (aF (i := 1) bB.nd rfl (Or.inl rfl) (cD (aa ao ak)))
  (aj (cB PassesOwn.never rfl (dw (pv 0)) (bw (i := 2) bB.nd rfl (Or.inl rfl)) (aj (aF (i := 3) bB.nd rfl (Or.inl rfl) (az bJ (az b8 (pv 2) ao) ao))
  (aj (aF (i := 4) bB.nd rfl (Or.inl rfl) (az aV ao (az bJ (az cg (pv 3) ao) ao)))
  (aj (aW (aL bY (az bJ (az cg (pv 3) ao) ao) ao (aN _)) (aq (aF (i := 4) bB.nd rfl (Or.inl rfl) (az aV ao (az bJ (az cg (pv 3) ao) ao)))) aM)
  (aj (aF (i := 5) bB.nd rfl (Or.inl rfl) (az bJ (az cg (pv 3) ao) (az aV (aQ aR (pv 1) (tQ m9 ao) (fun _ _ => rfl)) ao)))
  (aq (cB PassesOwn.never rfl (jX rfl T.b_range (aa (aU (jV rfl) rfl T.b_min Tw.jE (aa (pv 4) (aa (az bx ao (aU bc rfl T.b_len Tw.cG (aa (pv 1) ak))) ak))) ak)) (bw (i := 6) bB.nd rfl (Or.inl rfl)) (aj (aF (i := 7) bB.nd rfl (Or.inl rfl) (az aV (pv 5) ao))
  (aj (aW (aL bY (az bJ (pv 3) ao) ao (aN _)) (aq (aF (i := 7) bB.nd rfl (Or.inl rfl) (az aV (az aV (pv 5) ao) (pv 6)))) aM)
  (aj (aW (aL bY (az bJ (pv 3) ao) ao (aN _)) (aq (aF (i := 7) bB.nd rfl (Or.inl rfl) (az aV (az aV (pv 5) ao) (az bJ (pv 6) ao)))) aM)
  (aj (aW (aL bY (az bJ (pv 3) ao) ao (aN _)) (aq (aF (i := 7) bB.nd rfl (Or.inl rfl) (az aV ao (az bJ (az bJ (az b8 (az b8 (pv 3) (az aV (az b8 ao (pv 6)) ao)) ao) ao) (az aV (aQ aR (pv 1) (tQ m9 ao) (fun _ _ => rfl)) ao))))) aM)
  (aq (bz (ir PySem.F.plainAttrs_list PySem.F.slot_list_append PySem.F.type_list_append bT (pv 1) (aa (pv 7) ak)))))))))))))))
  (aq (aB (pv 1))))), ?_⟩
 refine ⟨(by show 1 ≤ sizeLine; decide), fun r hr' => ?_⟩
 have hpr : upd H r (.lst [.int 0]) p = some (.lst (zs.map V.int)) := aA hr' _ _ _ hS
 refine ⟨_, rfl, p, rfl, ⟨_, SqL.of hpr⟩, ?_⟩
 have ne : r ≠ p := (aJ hS hr').symm
 refine dG (xs := zs.map V.int) (fun i σ H' => (∃ (k2 k4 k5 k6 k7 k8 : Option V), σ = [some (.ref p), some (.ref r), k2, k4, k5, k6, k7, k8]) ∧ aY H H' ∧ H' p = some (.lst (zs.map V.int)) ∧ ∃ (es : List Int) (la : Int), H' r = some (.lst ((es ++ [la]).map V.int)) ∧ bD (es ++ [la]) ∧ 0 ≤ la ∧ es.length + 1 ≤ 400) ?_ ?_ ?_ ?_
 ·refine ⟨⟨none, none, none, none, none, none, rfl⟩, aA hr' _, hpr, [], 0, ?_, bD.root, by decide, by decide⟩
  rw [au]
  rfl
 ·rintro i σ H' _ ⟨_, _, h, _⟩
  exact SqL.of h
 ·rintro i x σ H' hx ⟨⟨k2, k4, k5, k6, k7, k8, rfl⟩, sm, hc1, es, la, hr1, hg, hla0, hn⟩
  obtain ⟨z, hz, rfl⟩ := int_at hx
  have hla : atI ((es ++ [la]).map V.int) (-1) = some (.int la) := by
   rw [List.map_append]
   exact mU _ _
  refine ⟨_, rfl, _, _, rfl, rfl, .inr ⟨by decide, by decide⟩, _, _, rfl, rfl, (by show (0 : Int) < 2147483647; decide), ?_⟩
  refine ⟨_, rfl, _, _, rfl, rfl, ⟨by decide, by decide⟩, _, _, rfl, rfl, (by show (0 : Int) < 6; decide), _, _, rfl, rfl, ?_⟩
  refine ⟨_, rfl, _, _, rfl, rfl, ⟨by decide, by decide⟩, _, _, rfl, rfl, (by show (0 : Int) < 8; decide), rfl, _, rfl, ?_⟩
  refine Ff (fun σ H2 => H2 = H' ∧ ∃ mn : Int, σ = [some (.ref p), some (.ref r), some (.int z), some (.int (z * 48271 % 2147483647)), some (.int mn), k6, k7, k8] ∧ 1 ≤ mn ∧ mn ≤ 60) ⟨rfl, _, rfl, by omega, by omega⟩ ?_ (fun _ m => ?_)
  rotate_left
  ·refine ⟨_, rfl, _, _, rfl, rfl, ⟨by decide, by decide⟩, _, _, rfl, rfl, (by show (0 : Int) < 60; decide), _, _, rfl, rfl, ?_⟩
   exact m _ _ ⟨rfl, 1 + z * 48271 % 2147483647 / 32 % 60, rfl, by omega, by omega⟩
  rintro σ2 H2 ⟨rfl, mn, rfl, hm0, hm1⟩
  refine ⟨_, rfl, _, _, rfl, rfl, ⟨by decide, by decide⟩, _, rfl, _, rfl, r, _, _, _, rfl, rfl, SqL.of hr1, hla, _, _, rfl, rfl, _, _, rfl, rfl, (by show (0 : Int) < la + 1; omega), ?_⟩
  have b0 := Int.emod_nonneg (z * 48271 % 2147483647 / 1920) (show la + 1 ≠ 0 by omega)
  have b1 := Int.emod_lt_of_pos (z * 48271 % 2147483647 / 1920) (show (0 : Int) < la + 1 by omega)
  have hlen : ((es ++ [la]).map V.int).length = es.length + 1 := by
   rw [List.length_map, List.length_append]
   rfl
  refine ⟨_, rfl, _, rfl, r, _, rfl, .inl (SqL.of hr1), _, _, rfl, rfl, _, _, rfl, _, rfl, ?_, ?_, ?_⟩
  ·rw [hlen]
   split <;> omega
  ·rw [hlen]
   split <;> omega
  have hM : (if (400 : Int) - (((es ++ [la]).map V.int).length : Int) < mn then (400 : Int) - (((es ++ [la]).map V.int).length : Int) else mn).toNat + es.length + 1 ≤ 400 := by
   rw [hlen]
   split <;> omega
  refine nF (fun j σ H3 => (∃ (up : Int) (k7 k8 : Option V), σ = [some (.ref p), some (.ref r), some (.int z), some (.int (z * 48271 % 2147483647)), some (.int mn), some (.int up), k7, k8] ∧ 0 ≤ up ∧ aY H H3 ∧ H3 p = some (.lst (zs.map V.int)) ∧ ∃ (fs : List Int) (lb : Int), H3 r = some (.lst ((fs ++ [lb]).map V.int)) ∧ bD (fs ++ [lb]) ∧ 0 ≤ lb ∧ fs.length = es.length + j ∧ (z * 48271 % 2147483647 % 4 ≠ 3 → up ≤ lb) ∧ (z * 48271 % 2147483647 % 4 = 1 → up + (j : Int) ≤ lb) ∧ (z * 48271 % 2147483647 % 4 = 2 → 1 ≤ j → up + 1 ≤ lb))) ?_ ?_ ?_
  ·exact ⟨_, _, _, rfl, b0, sm, hc1, es, la, hr1, hg, hla0, rfl, fun _ => by omega, fun _ => by omega, fun _ z => by omega⟩
  ·rintro j σ H3 hj ⟨up, k7, k8, rfl, hu0, sm3, hc3, fs, lb, hr3, hg3, hlb0, hfl, g0, g1, g2⟩
   have hj' : j + es.length + 1 < 400 := by omega
   have hlb : atI ((fs ++ [lb]).map V.int) (-1) = some (.int lb) := by
    rw [List.map_append]
    exact mU _ _
   refine ⟨_, rfl, _, _, rfl, rfl, ?_⟩
   refine ⟨_, rfl, _, _, rfl, rfl, (by show (0 : Int) < 4; decide), rfl, _, rfl, ?_⟩
   refine mV (fun σ H4 => H4 = H3 ∧ ∃ dp : Int, σ = [some (.ref p), some (.ref r), some (.int z), some (.int (z * 48271 % 2147483647)), some (.int mn), some (.int up), some (.int (0 + (j : Int))), some (.int dp)] ∧ ((z * 48271 % 2147483647 % 4 = 1 ∧ dp = up + 1 + (j : Int)) ∨ (z * 48271 % 2147483647 % 4 ≠ 1 ∧ dp = up + 1))) (fun n => ⟨rfl, _, rfl, .inr ⟨fun e => n (decide_eq_true (congrArg V.int e)), rfl⟩⟩) ?_ (fun e m => ?_)
   rotate_left
   ·have e : V.int (z * 48271 % 2147483647 % 4) = V.int 1 := of_decide_eq_true e
    injection e with e
    exact ⟨_, rfl, _, _, rfl, rfl, _, rfl, _, _, rfl, rfl, m _ _ ⟨rfl, _, rfl, .inl ⟨e, by omega⟩⟩⟩
   rintro σ4 H4 ⟨rfl, dp, rfl, hdp⟩
   refine ⟨_, rfl, _, _, rfl, rfl, (by show (0 : Int) < 4; decide), rfl, _, rfl, ?_⟩
   refine mV (fun σ H5 => H5 = H4 ∧ ∃ dp : Int, σ = [some (.ref p), some (.ref r), some (.int z), some (.int (z * 48271 % 2147483647)), some (.int mn), some (.int up), some (.int (0 + (j : Int))), some (.int dp)] ∧ ((z * 48271 % 2147483647 % 4 = 1 ∧ dp = up + 1 + (j : Int)) ∨ (z * 48271 % 2147483647 % 4 = 2 ∧ dp = up + 1 + (j : Int) % 2) ∨ (z * 48271 % 2147483647 % 4 ≠ 1 ∧ z * 48271 % 2147483647 % 4 ≠ 2 ∧ dp = up + 1))) (fun n => ⟨rfl, dp, rfl, ?_⟩) ?_ (fun e m => ?_)
   ·have n2 : z * 48271 % 2147483647 % 4 ≠ 2 := fun e => n (decide_eq_true (congrArg V.int e))
    omega
   rotate_left
   ·have e : V.int (z * 48271 % 2147483647 % 4) = V.int 2 := of_decide_eq_true e
    injection e with e
    exact ⟨_, rfl, _, _, rfl, rfl, _, rfl, _, _, rfl, rfl, (by show (0 : Int) < 2; decide), _, _, rfl, rfl, m _ _ ⟨rfl, _, rfl, .inr (.inl ⟨e, by rw [Int.zero_add]⟩)⟩⟩
   rintro σ5 H5 ⟨rfl, dp2, rfl, hdp2⟩
   refine ⟨_, rfl, _, _, rfl, rfl, (by show (0 : Int) < 4; decide), rfl, _, rfl, ?_⟩
   refine mV (fun σ H6 => H6 = H5 ∧ ∃ dp : Int, σ = [some (.ref p), some (.ref r), some (.int z), some (.int (z * 48271 % 2147483647)), some (.int mn), some (.int up), some (.int (0 + (j : Int))), some (.int dp)] ∧ 1 ≤ dp ∧ dp ≤ lb + 1 ∧ (z * 48271 % 2147483647 % 4 ≠ 3 → up + 1 ≤ dp) ∧ (z * 48271 % 2147483647 % 4 = 1 → dp = up + 1 + (j : Int))) (fun n => ⟨rfl, dp2, rfl, ?_⟩) ?_ (fun e m => ?_)
   ·have n3 : z * 48271 % 2147483647 % 4 ≠ 3 := fun e => n (decide_eq_true (congrArg V.int e))
    have := g0 n3
    have hj2 : j = 0 ∨ 1 ≤ j := by omega
    refine ⟨by omega, ?_, by omega, by omega⟩
    rcases hdp2 with ⟨e, rfl⟩ | ⟨e, rfl⟩ | ⟨_, _, rfl⟩
    ·have := g1 e
     omega
    ·rcases hj2 with rfl | h
     ·omega
     ·have := g2 e h
      omega
    ·omega
   rotate_left
   ·have e : V.int (z * 48271 % 2147483647 % 4) = V.int 3 := of_decide_eq_true e
    injection e with e
    have c0 := Int.emod_nonneg (z * 48271 % 2147483647 * (2 * (0 + (j : Int)) + 3) * 69621 % 2147483629) (show lb + 1 ≠ 0 by omega)
    have c1 := Int.emod_lt_of_pos (z * 48271 % 2147483647 * (2 * (0 + (j : Int)) + 3) * 69621 % 2147483629) (show (0 : Int) < lb + 1 by omega)
    refine ⟨_, rfl, _, rfl, _, _, rfl, rfl, .inl ⟨by decide, by decide⟩, _, _, rfl, rfl, _, _, rfl, rfl, .inr ⟨by omega, by omega⟩, _, _, rfl, rfl, .inr ⟨by decide, by decide⟩, _, _, rfl, rfl, (by show (0 : Int) < 2147483629; decide), _, rfl, _, rfl, r, _, _, _, rfl, rfl, SqL.of hr3, hlb, _, _, rfl, rfl, _, _, rfl, rfl, (by show (0 : Int) < lb + 1; omega), _, _, rfl, rfl, ?_⟩
    exact m _ _ ⟨rfl, 1 + z * 48271 % 2147483647 * (2 * (0 + (j : Int)) + 3) * 69621 % 2147483629 % (lb + 1), rfl, by omega, by omega, fun n => absurd e n, fun n => by omega⟩
   rintro σ6 H6 ⟨rfl, dp3, rfl, d1, d2, d3, d4⟩
   refine ⟨_, rfl, .inl ⟨rfl, _, SqL.of hr3⟩, _, rfl, r, _, _, rfl, rfl, hr3, ?_, ?_⟩
   ·rw [List.length_map, List.length_append, List.length_singleton, sizeLine_eq]
    omega
   refine ⟨up, _, _, rfl, hu0, bL sm3 hr' _, ?_, fs ++ [lb], dp3, ?_, hg3.snoc (by simp) d1 d2, by omega, ?_, fun n => ?_, fun n => ?_, fun n _ => ?_⟩
   ·rw [aH (Ne.symm ne)]
    exact hc3
   ·rw [au, List.map_append (l₂ := [dp3])]
    rfl
   ·rw [List.length_append, List.length_singleton]
    omega
   ·have := d3 n
    omega
   ·have := d4 n
    omega
   ·have := d3 (by omega)
    omega
  ·rintro σ H3 ⟨up, k7, k8, rfl, hu0, sm3, hc3, fs, lb, hr3, hg3, hlb0, hfl, g0, g1, g2⟩
   exact ⟨⟨_, _, _, _, _, _, rfl⟩, sm3, hc3, fs, lb, hr3, hg3, hlb0, by omega⟩
 ·rintro σ H' ⟨⟨k2, k4, k5, k6, k7, k8, rfl⟩, sm, hc1, es, la, hr1, hg, hla0, hn⟩
  refine ⟨_, rfl, q r _ (es ++ [la]) hr' sm hr1 hg ?_⟩
  rw [List.length_append, List.length_singleton]
  omega
def Cy : Sp := fun vs H Q _ => ∃ z : Int, vs = [.int z] ∧ ∀ (r : Addr) (H' : Hp) (ds : List Int), H r = none → aY H H' → H' r = some (.lst (ds.map V.int)) → bD ds → ds.length ≤ 2048 → Q (.ref r) H'
theorem uE (T : Tx K mg a) : bj P w K mg base CX0 1 a.f_law_great a.fd_law_great ["_law_cell"] Cy := by
 refine T.D_law_great.F.ok my (fun vs H Q E h => ?_) (fun cdv A outer s H vs Q E hr h => ?_)
 ·obtain ⟨z, rfl, _⟩ := h
  rfl
 obtain ⟨z, rfl, q⟩ := h
 refine ⟨_, (aj (aF (i := 1) my.nd rfl (Or.inr rfl) (aQ aR (cD (aa ao (aa ao (aa (az aV ao (az bJ (az cg (pv 0) ao) ao)) ak)))) (az bJ (pv 0) ao) (fun _ _ => rfl)))
  (aq (aB (az nj (cD (aa ao ak)) (mz rfl (dg.one (j := 1) rfl (Or.inl rfl) rfl rfl (Or.inl rfl)) (jX rfl T.b_range (aa ao ak)) (fun _ _ _ _ => jR) (fun _ _ _ _ => (az aV ao (az bJ (pv 0) (pv 1))))))))), ?_⟩
 obtain ⟨L, hL1, hL2, eL⟩ : ∃ L : Nat, 1 ≤ L ∧ L ≤ 2047 ∧ atI [V.int 2047, V.int 1, V.int (1 + z / 3 % 2047)] (z % 3) = some (.int (L : Int)) := by
  have h3 : z % 3 = 0 ∨ z % 3 = 1 ∨ z % 3 = 2 := by omega
  rcases h3 with h | h | h
  ·rw [h]
   exact ⟨2047, by decide, by decide, rfl⟩
  ·rw [h]
   exact ⟨1, by decide, by decide, rfl⟩
  ·rw [h]
   refine ⟨((1 : Int) + z / 3 % 2047).toNat, by omega, by omega, ?_⟩
   rw [Int.toNat_of_nonneg (by omega)]
   rfl
 refine ⟨_, rfl, _, _, rfl, rfl, ⟨by decide, by decide⟩, _, _, rfl, rfl, (by show (0 : Int) < 2047; decide), _, _, rfl, rfl, (by show 3 ≤ sizeLine; decide), fun l hl' => ?_⟩
 refine ⟨_, rfl, _, _, rfl, rfl, (by show (0 : Int) < 3; decide), l, _, _, _, rfl, rfl, SqL.of au, eL, ?_⟩
 have s2 := aA hl' (.lst [V.int 2047, V.int 1, V.int (1 + z / 3 % 2047)])
 refine ⟨(by show 1 ≤ sizeLine; decide), fun l1 h1 => ?_⟩
 have s3 := s2.trans (aA h1 (.lst [.int 0]))
 refine ⟨2047, rfl, by decide, by decide, ?_⟩
 refine tO (n := 2047) (fun k : Nat => 1 + (0 + (k : Int)) % (L : Int)) (by decide) (fun z H' Q q => q) (fun i H' Q hi sm q => ⟨_, rfl, _, rfl, _, _, rfl, rfl, (by show (0 : Int) < (L : Int); omega), _, _, rfl, rfl, q⟩) fun D hD => ?_
 have s4 := s3.trans (aA hD (.lst (((List.range 2047).map fun k : Nat => 1 + (0 + (k : Int)) % (L : Int)).map V.int)))
 refine ⟨l1, D, _, _, rfl, rfl, (aA hD _) _ _ au, au, ?_, fun r2 hr2 => ?_⟩
 ·rw [List.length_map, List.length_map, List.length_range, sizeLine_eq]
  decide
 have ef : (fun k : Nat => 1 + (0 + (k : Int)) % (L : Int)) = fun k : Nat => 1 + ((k % L : Nat) : Int) := by
  funext k
  rw [Int.zero_add, Int.natCast_emod]
 refine q r2 _ (0 :: (List.range 2047).map fun k : Nat => 1 + ((k % L : Nat) : Int)) (s4.free hr2) (s4.trans (aA hr2 _)) ?_ (bD.chains hL1 2047) ?_
 ·rw [au, ef]
  rfl
 ·rw [List.length_cons, List.length_map, List.length_range]
  decide
theorem wg {K : PySem.W.Frag} {a : Addr} {xs : List V} {cap : L2.St} {tt : TT} {te : TE} {Qf : Addr → Hp → Prop} {H : Hp} (Pv : Addr → Nat → List V → Hp → Prop) (hl : xs.length < sizeLine)
  (h0 : ∀ D, H D = none → Pv D 0 [] (upd H D (.lst []))) (hs : ∀ D i ys X, Pv D i ys X → X D = some (.lst ys) ∧ SqL K X a xs ∧ ys.length = i)
  (htt : ∀ (x : V) (H' : Hp) (Q : Bool → Hp → Prop), Q true H' → tt (some x :: cap) H' Q)
  (hte : ∀ D i x ys X (Q : VK), xs[i]? = some x → Pv D i ys X → (∀ v X', X' D = some (.lst ys) → Pv D (i + 1) (ys ++ [v]) (upd X' D (.lst (ys ++ [v]))) → Q v X') → te (some x :: cap) X Q)
  (q : ∀ D ys X, H D = none → Pv D xs.length ys X → Qf D X) : qR (Itl K a) cap tt te Qf H := by
 intro D hD
 refine ⟨fun i m ys X => m = xs.length - i ∧ i ≤ xs.length ∧ Pv D i ys X, ⟨_, rfl, Nat.zero_le _, h0 D hD⟩, ?_⟩
 rintro i m ys X ⟨rfl, hi, hP⟩
 obtain ⟨h1, h2, h3⟩ := hs D i ys X hP
 by_cases hlt : i < xs.length
 ·have hg := List.getElem?_eq_getElem hlt
  refine .inr ⟨⟨_, _, h2, hg⟩, fun v H2 y => ?_⟩
  obtain ⟨rfl, y⟩ := y
  have e := y _ h2
  rw [hg] at e
  cases e
  refine htt _ _ _ ?_
  rw [if_pos rfl]
  exact hte D i _ ys _ _ hg hP fun v X' e1 e2 => ⟨e1, by omega, xs.length - (i + 1), by omega, rfl, hlt, e2⟩
 ·have e : i = xs.length := by omega
  subst e
  exact .inl ⟨⟨_, h2, Nat.le_refl _⟩, q D ys X hD hP⟩
def yK (G X : Hp) (v : V) : Prop := ∃ (tp : Addr) (ds : List Int) (t ah nd bl r : Addr) (lows : List Int) (S : Nat) (xs rx : List V), v = .ref tp ∧ jn X tp ds t ah nd bl r lows S xs rx ∧ G bl = none ∧ G r = none ∧ ∀ (j : Nat) (q : Addr), rx[j]? = some (V.ref q) → G q = none
theorem jn.kept {G X Y : Hp} {tp : Addr} {ds : List Int} {t ah nd bl r : Addr} {lows : List Int} {S : Nat} {xs rx : List V} (h : jn X tp ds t ah nd bl r lows S xs rx) (n1 : G bl = none) (n2 : G r = none) (n3 : ∀ (j : Nat) (q : Addr), rx[j]? = some (V.ref q) → G q = none)
  (k1 : ∀ b us, X b = some (.tup us) → Y b = some (.tup us)) (k2 : ∀ b us, X b = some (.lst us) → G b = none → Y b = some (.lst us)) : jn Y tp ds t ah nd bl r lows S xs rx :=
 ⟨k1 _ _ h.tup, ⟨⟨k1 _ _ h.kb.tab.tup, k1 _ _ h.kb.tab.ahs, h.kb.tab.few⟩, k1 _ _ h.kb.nds, k2 _ _ h.kb.bls n1, h.kb.low, h.kb.sz, h.kb.heap⟩, h.rows.kept (k2 _ _ h.rows.row n2) fun j q ys e1 e2 => k2 _ _ e2 (n3 j q e1), h.good, h.few⟩
theorem yK.kept {G X Y : Hp} {v : V} (h : yK G X v) (k1 : ∀ b us, X b = some (.tup us) → Y b = some (.tup us)) (k2 : ∀ b us, X b = some (.lst us) → G b = none → Y b = some (.lst us)) : yK G Y v := by
 obtain ⟨tp, ds, t, ah, nd, bl, r, lows, S, xs, rx, rfl, h, n1, n2, n3⟩ := h
 exact ⟨tp, ds, t, ah, nd, bl, r, lows, S, xs, rx, rfl, h.kept n1 n2 n3 k1 k2, n1, n2, n3⟩
def yI (G X : Hp) (v : V) : Prop := ∃ (lp d c : Addr) (ds : List Int), v = .ref lp ∧ X lp = some (.tup [.ref d, .ref c]) ∧ X d = some (.lst (ds.map V.int)) ∧ X c = some (.lst (ds.map V.int)) ∧ G d = none ∧ G c = none
theorem yI.kept {G X Y : Hp} {v : V} (h : yI G X v) (k1 : ∀ b us, X b = some (.tup us) → Y b = some (.tup us)) (k2 : ∀ b us, X b = some (.lst us) → G b = none → Y b = some (.lst us)) : yI G Y v := by
 obtain ⟨lp, d, c, ds, rfl, h1, h2, h3, n1, n2⟩ := h
 exact ⟨lp, d, c, ds, rfl, k1 _ _ h1, k2 _ _ h2 n1, k2 _ _ h3 n2, n1, n2⟩
def Kx (tr li : Addr) (H X : Hp) : Prop := ∀ b o, H b = some o → b ≠ tr → b ≠ li → X b = some o
theorem Kx.free {tr li b : Addr} {H X : Hp} (h : Kx tr li H X) {o1 o2 : HO} (e1 : X tr = some o1) (e2 : X li = some o2) (hb : X b = none) : H b = none := by
 cases e : H b with
 | none => rfl
 | some o =>
  rw [h b o e (fun z => by rw [z, e1] at hb; cases hb) (fun z => by rw [z, e2] at hb; cases hb)] at hb
  cases hb
def sp_law (K : PySem.W.Frag) (Ph Pt : Addr) : Sp := fun vs H Q _ => ∃ (s : Addr) (ns : List Int), vs = [.ref s] ∧ SqL K H s (ns.map V.int) ∧ ns.length ≤ 63 ∧ TabAt H Ph (gh bH) bh.qual ∧ TabAt H Pt (p7 cQ) bA.qual ∧ ∀ H', Q (.bl true) H'
theorem zL {H : Hp} {s Ph Pt : Addr} {ns : List Int} (hS : SqL K H s (ns.map V.int)) (hl : ns.length ≤ 63) (h0 : H Ph = some (.tbl #[])) (h : H Pt = some (.tbl #[])) : sp_law K Ph Pt [.ref s] H (fun v _ => v = .bl true) fun _ _ _ => False :=
 ⟨s, ns, rfl, hS, hl, tab0 h0, tab0 h, fun _ => rfl⟩
theorem Gf (T : Tx K mg a) (B : Bs mg base a) : bj P w K mg base CX0 14 a.f_law a.fd_law ["_law_script"] (sp_law K a.tP_heap_look a.tP_law_look) := by
 refine T.D_law.F.ok gj (fun vs H Q E h => ?_) (fun cdv A outer s H vs Q E hr h => ?_)
 ·obtain ⟨b, f, rfl, _⟩ := h
  rfl
 obtain ⟨sa, zs, rfl, hS, hl, hTh, hT, q⟩ := h
 refine ⟨_, (aj (aF (i := 1) gj.nd rfl (Or.inl rfl) (cD ak))
  (aj (aF (i := 2) gj.nd rfl (Or.inl rfl) (cD ak))
  (aj (cB PassesOwn.never rfl (dw (cD (aa (il jQ (pv 0) lU (iV ao)) (aa (kZ rfl rfl T.b_list Tw.jO rfl T.b_reversed Tw.eF (aa (il jQ (pv 0) lU (iV ao)) ak)) ak)))) (bw (i := 3) gj.nd rfl (Or.inl rfl)) (aj (aF (i := 4) gj.nd rfl (Or.inl rfl) (aD T.D_law_depths (su T) (by decide) hr aK rfl (aa (pv 3) ak)))
  (uN (aW (PW.pt (jk (aL gU (aU bc rfl T.b_len Tw.cG (aa (pv 3) ak)) ao (aN _)) (iW (aL bY (az bJ (aQ aR (pv 3) ao (fun _ _ => rfl)) ao) ao (aN _))))) (aq (aF (i := 4) gj.nd rfl (Or.inl rfl) (aD T.D_law_great (uE T) (by decide) hr aK rfl (aa (aQ aR (pv 3) ao (fun _ _ => rfl)) ak)))) aM)
  (aj (bz (ir PySem.F.plainAttrs_list PySem.F.slot_list_append PySem.F.type_list_append bT (pv 2) (aa (oR (aa (pv 4) (aa (fL iU rfl T.b_list Tw.jO (aa (pv 4) ak)) ak))) ak)))
  (aj (oM (aD T.D_kept_tree (uM T) (by decide) hr aK rfl (aa (pv 4) ak)) (ju rfl (bQ (bw (i := 5) gj.nd rfl (Or.inl rfl)) (bQ (bw (i := 6) gj.nd rfl (Or.inl rfl)) gr))))
  (aq (bz (ir PySem.F.plainAttrs_list PySem.F.slot_list_append PySem.F.type_list_append bT (pv 1) (aa (oR (aa (pv 5) (aa (pv 6) (aa (aD T.D_law_rows (vM T) (by decide) hr aK rfl (aa (pv 4) ak)) ak)))) ak)))))))))
  (aj (yr (i := 7) gj.nd rfl rfl rfl dg.zero (dw (pv 1)) (fun _ _ _ _ => jR) (fun _ _ _ _ => (fL (show gP _ (.type "list") (fun xs H Q => ∃ p ys, xs = [.ref p] ∧ (SqL K H p ys ∨ SqT K H p ys) ∧ ∀ l, H l = none → Q (.ref l) (upd H l (.lst ys))) from iU) rfl T.b_list Tw.jO (aa (aQ (show IxR _ (Et K) from bC) (pv 0) ao (fun _ _ => rfl)) ak))))
  (aj (aF (i := 3) gj.nd rfl (Or.inl rfl) (il jQ (pv 0) lU (iV ao)))
  (aj (cB PassesOwn.never rfl (dw (az nj (pv 3) (kZ rfl rfl T.b_list Tw.jO rfl T.b_reversed Tw.eF (aa (pv 3) ak)))) (bw (i := 8) gj.nd rfl (Or.inl rfl)) (aq (aW (lw (ux (aD T.D_law_good (vJ T B) (by decide) hr aK rfl (aa (aQ aR (pv 1) (az bJ (pv 8) ao) (fun _ _ => rfl)) (aa (pv 8) ak))))) (aq (aB zg)) aM)))
  (aj (aW (aL (Fy hr.units) (mz rfl dg.zero (dw (pv 1)) (fun _ _ _ _ => jR) (fun _ _ _ _ => (aQ (show IxR _ (Et K) from bC) (pv 0) ao (fun _ _ => rfl)))) (pv 7) (aN _)) (aq (aB zg)) aM)
  (aq (aB (nZ (iM (BW hr.units) (aQ bC (aQ aR (pv 2) ao (fun _ _ => rfl)) ao (fun _ _ => rfl)) (aQ bC (aQ aR (pv 2) ao (fun _ _ => rfl)) ao (fun _ _ => rfl)) (aN _)) (nW (iM (BW hr.units) (aQ bC (aQ aR (pv 2) ao (fun _ _ => rfl)) ao (fun _ _ => rfl)) (aQ bC (aQ aR (pv 2) ao (fun _ _ => rfl)) ao (fun _ _ => rfl)) (aN _))))))))))))), ?_⟩
 have nn := B.N_heap_look_law_look
 have ez : jo (zs.map V.int) none (some 63) = zs.map V.int := by
  rw [show (63 : Int) = ((63 : Nat) : Int) from rfl, Cw, List.take_of_length_le hl]
 refine ⟨(by show 0 ≤ sizeLine; decide), fun tr htr => ⟨(by show 0 ≤ sizeLine; decide), fun li hli => ?_⟩⟩
 have s0 := (aA htr (.lst [])).trans (aA hli (.lst []))
 have xtr0 := aA hli (.lst []) _ _ (show upd H tr (.lst []) tr = some (.lst []) from au)
 have xli0 : upd (upd H tr (.lst [])) li (.lst []) li = some (.lst []) := au
 have ntl : tr ≠ li := aJ au hli
 generalize upd (upd H tr (.lst [])) li (.lst []) = H0 at *
 refine ⟨_, rfl, _, rfl, sa, _, rfl, s0.seq hS, fun l1 hl1 => ?_⟩
 rw [ez]
 have s1 := aA hl1 (.lst (zs.map V.int))
 have xl1 : upd H0 l1 (.lst (zs.map V.int)) l1 = some (.lst (zs.map V.int)) := au
 generalize upd H0 l1 (.lst (zs.map V.int)) = H1 at *
 refine ⟨_, rfl, _, rfl, sa, _, rfl, (s0.trans s1).seq hS, fun l2 hl2 => ?_⟩
 rw [ez]
 have s2 := aA hl2 (.lst (zs.map V.int))
 refine ⟨l2, _, rfl, SqL.of au, fun l3 hl3 => ?_⟩
 have s3 := aA hl3 (.lst (zs.map V.int).reverse)
 have xl3 : upd (upd H1 l2 (.lst (zs.map V.int))) l3 (.lst (zs.map V.int).reverse) l3 = some (.lst (zs.reverse.map V.int)) := by rw [au, List.map_reverse]
 have s23 := s2.trans s3
 generalize upd (upd H1 l2 (.lst (zs.map V.int))) l3 (.lst (zs.map V.int).reverse) = H3 at *
 refine ⟨(by show 2 ≤ sizeLine; decide), fun lc hlc => ⟨lc, rfl, ⟨_, SqL.of au⟩, ?_⟩⟩
 have s4 := aA hlc (.lst [.ref l1, .ref l3])
 have a14 := s1.trans (s23.trans s4)
 have aG := s0.trans a14
 have xlc : upd H3 lc (.lst [.ref l1, .ref l3]) lc = some (.lst [.ref l1, .ref l3]) := au
 have xl1 := s4 _ _ (s23 _ _ xl1)
 have xl3 := s4 _ _ xl3
 have xtrG := a14 _ _ xtr0
 have xliG := a14 _ _ xli0
 have nlc : ∀ {b : Addr} {us : List V}, H0 b = some (.lst us) → b ≠ lc ∧ b ≠ l1 ∧ b ≠ l3 := fun {b us} e => ⟨aJ (s23 _ _ (s1 _ _ e)) hlc, aJ e hl1, aJ (s2 _ _ (s1 _ _ e)) hl3⟩
 obtain ⟨nt1, nt2, nt3⟩ := nlc xtr0
 obtain ⟨ni1, ni2, ni3⟩ := nlc xli0
 have hSG := aG.seq hS
 have hTG := TabAt.same hT aG
 have hThG := TabAt.same hTh aG
 generalize upd H3 lc (.lst [.ref l1, .ref l3]) = G at *
 refine dG (xs := [.ref l1, .ref l3]) (fun i σ X => (∃ k3 k4 k5 k6, σ = [some (.ref sa), some (.ref tr), some (.ref li), k3, k4, k5, k6, none, none]) ∧ Kx tr li G X ∧ ∃ ts ls : List V, X tr = some (.lst ts) ∧ X li = some (.lst ls) ∧ ts.length = i ∧ ls.length = i ∧ (∀ (k : Nat) (v : V), ts[k]? = some v → yK G X v) ∧ ∀ (k : Nat) (v : V), ls[k]? = some v → yI G X v) ⟨⟨none, none, none, none, rfl⟩, fun _ _ e _ _ => e, [], [], xtrG, xliG, rfl, rfl, fun k v e => by simp at e, fun k v e => by simp at e⟩ ?_ ?_ ?_
 ·rintro i σ X _ ⟨_, kx, _⟩
  exact SqL.of (kx _ _ xlc nt1.symm ni1.symm)
 ·rintro i x σ X hx ⟨⟨k3, k4, k5, k6, rfl⟩, kx, ts, ls, xtr, xli, htl, hll, hts, hls⟩
  obtain ⟨l, cs, rfl, hcl, xl, hi2⟩ : ∃ (l : Addr) (cs : List Int), x = .ref l ∧ cs.length ≤ 63 ∧ X l = some (.lst (cs.map V.int)) ∧ i < 2 := by
   match i, hx with
   | 0, hx => cases hx; exact ⟨l1, zs, rfl, hl, kx _ _ xl1 nt2.symm ni2.symm, by omega⟩
   | 1, hx => cases hx; exact ⟨l3, zs.reverse, rfl, by rw [List.length_reverse]; exact hl, kx _ _ xl3 nt3.symm ni3.symm, by omega⟩
   | n + 2, hx => simp at hx
  have fr : ∀ {b : Addr}, X b = none → G b = none := fun hb => kx.free xtr xli hb
  refine ⟨_, rfl, l, cs, rfl, xl, hcl, fun d0 X1 ds0 hd0 sm1 xd0 hg0 hn0 => ?_⟩
  refine ⟨fun σ' Y => ∃ (d : Addr) (ds : List Int), σ' = [some (.ref sa), some (.ref tr), some (.ref li), some (.ref l), some (.ref d), k5, k6, none, none] ∧ X d = none ∧ aY X Y ∧ Y d = some (.lst (ds.map V.int)) ∧ bD ds ∧ ds.length ≤ 2048, ?_, ?_⟩
  ·have ecl : (cs.map V.int).length = cs.length := List.length_map ..
   refine ⟨_, rfl, l, _, rfl, .inl (SqL.of (sm1 _ _ xl)), _, _, rfl, rfl, _, rfl, aP (fun c => ?_) fun _ => cW ⟨d0, ds0, rfl, hd0, sm1, xd0, hg0, by omega⟩⟩
   have c : (2 : Int) < ((cs.map V.int).length : Int) := of_decide_eq_true c
   have e0 := List.getElem?_eq_getElem (show 0 < cs.length by omega)
   have e1 := List.getElem?_eq_getElem (show 1 < cs.length by omega)
   refine ⟨_, rfl, l, _, _, _, rfl, rfl, SqL.of (sm1 _ _ xl), jP (i := 0) e0, _, _, rfl, rfl, (by show (0 : Int) < 16; decide), rfl, _, rfl, aP (fun _ => ?_) fun _ => ⟨d0, ds0, rfl, hd0, sm1, xd0, hg0, by omega⟩⟩
   exact ⟨_, rfl, l, _, _, _, rfl, rfl, SqL.of (sm1 _ _ xl), jP (i := 1) e1, _, rfl, fun d X2 ds hd sm2 xd hg hn => ⟨d, ds, rfl, sm1.free hd, sm1.trans sm2, xd, hg, hn⟩⟩
  rintro σ' Y ⟨d, ds, rfl, hd0, sm1, xd, hg, hn⟩
  have hbl := jW hg
  refine ⟨_, rfl, .inl ⟨rfl, _, SqL.of (sm1 _ _ xli)⟩, _, rfl, _, rfl, d, _, rfl, .inl (SqL.of xd), fun c hc => ⟨(by show 2 ≤ sizeLine; decide), fun lp hlp => ?_⟩⟩
  have s5 := aA hc (.lst (ds.map V.int))
  have xc : upd Y c (.lst (ds.map V.int)) c = some (.lst (ds.map V.int)) := au
  generalize upd Y c (.lst (ds.map V.int)) = Y1 at *
  have s6 := aA hlp (.tup [.ref d, .ref c])
  have xlp : upd Y1 lp (.tup [.ref d, .ref c]) lp = some (.tup [.ref d, .ref c]) := au
  have xc := s6 _ _ xc
  have sY2 := sm1.trans (s5.trans s6)
  have hc0 := sm1.free hc
  have xd2 := s6 _ _ (s5 _ _ xd)
  generalize upd Y1 lp (.tup [.ref d, .ref c]) = Y2 at *
  refine ⟨li, _, _, rfl, rfl, sY2 _ _ xli, by rw [hll, sizeLine_eq]; omega, ?_⟩
  have nli : ∀ {b : Addr}, X b = none → b ≠ li := fun hb z => by rw [z, xli] at hb; cases hb
  have ntr : ∀ {b : Addr}, X b = none → b ≠ tr := fun hb z => by rw [z, xtr] at hb; cases hb
  have k3' : ∀ b o, Y2 b = some o → b ≠ li → upd Y2 li (.lst (ls ++ [.ref lp])) b = some o := fun b o e n => by rw [aH n]; exact e
  have xli3 : upd Y2 li (.lst (ls ++ [.ref lp])) li = some (.lst (ls ++ [.ref lp])) := au
  have nlp : lp ≠ li := fun z => by rw [z, sY2 _ _ xli] at xlp; cases xlp
  have xd3 := k3' _ _ xd2 (nli hd0)
  have xc3 := k3' _ _ xc (nli hc0)
  have xlp3 := k3' _ _ xlp nlp
  have xtr3 := k3' _ _ (sY2 _ _ xtr) ntl
  generalize upd Y2 li (.lst (ls ++ [.ref lp])) = Y3 at *
  have f3 : ∀ {b : Addr}, Y3 b = none → X b = none := fun {b} hb => by
   cases e : X b with
   | none => rfl
   | some o =>
    by_cases z : b = li
    ·rw [z, xli3] at hb
     cases hb
    ·rw [k3' _ _ (sY2 _ _ e) z] at hb
     cases hb
  refine ⟨_, rfl, d, ds, rfl, xd3, by omega, hg, fun kr t ah nd bl lows S xs Y4 hbl0 sm4 xkr kb => ?_⟩
  refine ⟨kr, _, rfl, SqT.of xkr, rfl, _, _, rfl, _, _, rfl, rfl, ?_⟩
  refine ⟨_, rfl, .inl ⟨rfl, _, SqL.of (sm4 _ _ xtr3)⟩, _, rfl, _, rfl, _, rfl, d, ds, rfl, sm4 _ _ xd3, hg, by omega, fun r Y5 rx hr0 sm5 hR => ⟨(by show 3 ≤ sizeLine; decide), fun tp htp => ?_⟩⟩
  have s7 := aA htp (.tup [.ref t, .ref bl, .ref r])
  have xtp : upd Y5 tp (.tup [.ref t, .ref bl, .ref r]) tp = some (.tup [.ref t, .ref bl, .ref r]) := au
  have s36 := sm4.trans (sm5.trans s7)
  have hRW : RWs (upd Y5 tp (.tup [.ref t, .ref bl, .ref r])) r ds rx := ⟨s7 _ _ hR.row, hR.len, fun j y e => by
   obtain ⟨q, d, el, fi, yo, ol, be, rfl, h1, h2⟩ := hR.all j y e
   exact ⟨q, d, el, fi, yo, ol, be, rfl, s7 _ _ h1, h2⟩⟩
  have hTA : jn (upd Y5 tp (.tup [.ref t, .ref bl, .ref r])) tp ds t ah nd bl r lows S xs rx := by
   have s57 := sm5.trans s7
   exact ⟨xtp, ⟨⟨s57 _ _ kb.tab.tup, s57 _ _ kb.tab.ahs, kb.tab.few⟩, s57 _ _ kb.nds, s57 _ _ kb.bls, kb.low, kb.sz, kb.heap⟩, hRW, hg, hn⟩
  generalize upd Y5 tp (.tup [.ref t, .ref bl, .ref r]) = Y6 at *
  refine ⟨tr, _, _, rfl, rfl, s36 _ _ xtr3, by rw [htl, sizeLine_eq]; omega, ?_⟩
  have fX : ∀ {b : Addr}, Y4 b = none → X b = none := fun hb => f3 (sm4.free hb)
  have n1 := fr (f3 hbl0)
  have n2 := fr (fX hr0)
  have n3 : ∀ (j : Nat) (q : Addr), rx[j]? = some (V.ref q) → G q = none := fun j q e => fr (fX (hR.new j q e).1)
  have nG : ∀ {b : Addr}, G b = none → b ≠ tr ∧ b ≠ li := fun hb => ⟨fun z => by (rw [z, xtrG] at hb; cases hb), fun z => by (rw [z, xliG] at hb; cases hb)⟩
  have kt : ∀ b us, Y6 b = some (.tup us) → upd Y6 tr (.lst (ts ++ [.ref tp])) b = some (.tup us) := fun b us e => by
   rw [aH (fun z => by rw [z, s36 _ _ xtr3] at e; cases e)]
   exact e
  have kl : ∀ b us, Y6 b = some (.lst us) → G b = none → upd Y6 tr (.lst (ts ++ [.ref tp])) b = some (.lst us) := fun b us e n => by
   rw [aH (nG n).1]
   exact e
  have k1 : ∀ b us, X b = some (.tup us) → upd Y6 tr (.lst (ts ++ [.ref tp])) b = some (.tup us) := fun b us e => kt _ _ (s36 _ _ (k3' _ _ (sY2 _ _ e) (fun z => by rw [z, xli] at e; cases e)))
  have k2 : ∀ b us, X b = some (.lst us) → G b = none → upd Y6 tr (.lst (ts ++ [.ref tp])) b = some (.lst us) := fun b us e n => kl _ _ (s36 _ _ (k3' _ _ (sY2 _ _ e) (nG n).2)) n
  refine ⟨⟨_, _, _, _, rfl⟩, fun b o e n1 n2 => ?_, ts ++ [.ref tp], ls ++ [.ref lp], au, ?_, ?_, ?_, fun k v e => ?_, fun k v e => ?_⟩
  ·rw [aH n1]
   exact s36 _ _ (k3' _ _ (sY2 _ _ (kx b o e n1 n2)) n2)
  ·rw [aH ntl.symm]
   exact s36 _ _ xli3
  ·rw [List.length_append, htl]
   rfl
  ·rw [List.length_append, hll]
   rfl
  ·rcases Nat.lt_or_ge k i with z | z
   ·rw [List.getElem?_append_left (by omega)] at e
    exact (hts k v e).kept k1 k2
   ·have ek : k = i := by
     have := (List.getElem?_eq_some_iff.mp e).1
     rw [List.length_append, List.length_singleton] at this
     omega
    subst ek
    rw [List.getElem?_append_right (by omega), htl, Nat.sub_self] at e
    cases e
    exact ⟨tp, ds, t, ah, nd, bl, r, lows, S, xs, rx, rfl, hTA.kept n1 n2 n3 kt kl, n1, n2, n3⟩
  ·rcases Nat.lt_or_ge k i with z | z
   ·rw [List.getElem?_append_left (by omega)] at e
    exact (hls k v e).kept k1 k2
   ·have ek : k = i := by
     have := (List.getElem?_eq_some_iff.mp e).1
     rw [List.length_append, List.length_singleton] at this
     omega
    subst ek
    rw [List.getElem?_append_right (by omega), hll, Nat.sub_self] at e
    cases e
    exact ⟨lp, d, c, ds, rfl, kt _ _ (s36 _ _ xlp3), kl _ _ (s36 _ _ xd3) (fr hd0), kl _ _ (s36 _ _ xc3) (fr hc0), fr hd0, fr hc0⟩
 ·rintro σ X ⟨⟨k3, k4, k5, k6, rfl⟩, kx, ts, ls, xtr, xli, htl, hll, hts, hls⟩
  have two : ∀ {us : List V}, us.length = 2 → ∃ u v, us = [u, v] := fun {us} h => match us, h with | [u, v], _ => ⟨u, v, rfl⟩
  obtain ⟨u0, u1, rfl⟩ := two htl
  obtain ⟨w0, w1, rfl⟩ := two hll
  obtain ⟨tp0, ds0, t0, ah0, nd0, bl0, r0, lows0, S0, xs0, rx0, rfl, A0, n01, n02, n03⟩ := hts 0 _ rfl
  obtain ⟨tp1, ds1, t1, ah1, nd1, bl1, r1, lows1, S1, xs1, rx1, rfl, A1, n11, n12, n13⟩ := hts 1 _ rfl
  obtain ⟨lp0, d0, c0, es0, rfl, b01, b02, b03, _, _⟩ := hls 0 _ rfl
  obtain ⟨lp1, d1, c1, es1, rfl, b11, b12, b13, _, _⟩ := hls 1 _ rfl
  have hSX : SqL K X sa (zs.map V.int) := by
   have nS : ∀ {o : HO}, H sa = some o → sa ≠ tr ∧ sa ≠ li := fun {o} e => ⟨aJ e htr, aJ ((aA htr (.lst [])) _ _ e) hli⟩
   rcases hS with (e | ⟨o, e⟩) | e
   ·exact .inl (.inl (kx _ _ (aG _ _ e) (nS e).1 (nS e).2))
   ·exact .inl (.inr ⟨o, kx _ _ (aG _ _ e) (nS e).1 (nS e).2⟩)
   ·exact .inr e
  have nG : ∀ {b : Addr} {o : HO}, G b = some o → (∀ xs, o ≠ .lst xs) → b ≠ tr ∧ b ≠ li := fun e n => ⟨fun z => by (rw [z, xtrG] at e; cases e; exact n _ rfl), fun z => by (rw [z, xliG] at e; cases e; exact n _ rfl)⟩
  have tabX : ∀ {P : Addr} {pos : Pos} {q : Str}, TabAt G P pos q → TabAt X P pos q := fun {P pos q} h => by
   obtain ⟨ps, z1, z2, z3⟩ := h
   refine ⟨ps, kx _ _ z1 (nG z1 nofun).1 (nG z1 nofun).2, z2, ?_⟩
   rcases z3 with z3 | ⟨cd, oc, vs, tk, z4, z5, z6⟩
   ·exact .inl z3
   ·exact .inr ⟨cd, oc, vs, tk, z4, kx _ _ z5 (nG z5 nofun).1 (nG z5 nofun).2, z6⟩
  have hTX := tabX hTG
  have hThX := tabX hThG
  refine ⟨_, rfl, tr, rfl, ⟨_, SqL.of xtr⟩, ?_⟩
  refine wg (xs := [.ref tp0, .ref tp1]) (fun D i ys Z => X D = none ∧ aY X Z ∧ Z D = some (.lst ys) ∧ ys.length = i ∧ (1 ≤ i → ∃ k0, ys[0]? = some (.ref k0) ∧ X k0 = none ∧ k0 ≠ D ∧ Z k0 = some (.lst ((cV (brk ds0 0)).map V.int))) ∧ (2 ≤ i → ∃ k1, ys[1]? = some (.ref k1) ∧ X k1 = none ∧ k1 ≠ D ∧ Z k1 = some (.lst ((cV (brk ds1 0)).map V.int)))) (by show 2 < sizeLine; decide) (fun D hD => ⟨hD, aA hD _, au, rfl, fun z => by omega, fun z => by omega⟩) (fun D i ys Z h => ⟨h.2.2.1, SqL.of (h.2.1 _ _ xtr), h.2.2.2.1⟩) (fun _ _ _ q => q) (fun D i x ys Z Q hx hP qq => ?_) (fun D ys Z hD hP => ?_)
  ·obtain ⟨hD, sm, xD, hyl, g0, g1⟩ := hP
   match i, hx with
   | 0, hx =>
    cases hx
    refine ⟨_, rfl, tp0, _, _, _, rfl, rfl, SqT.of (sm _ _ A0.tup), rfl, bl0, _, rfl, .inl (SqL.of (sm _ _ A0.kb.bls)), fun kp hkp => qq _ _ ?_ ?_⟩
    ·rw [aH (aJ xD hkp)]
     exact xD
    ·have nD : kp ≠ D := (aJ xD hkp).symm
     refine ⟨hD, fun b o e => ?_, au, by rw [List.length_append, hyl]; rfl, fun _ => ⟨kp, ?_, sm.free hkp, nD, ?_⟩, fun z => by omega⟩
     ·rw [aH (aJ e hD), aH (aJ (sm _ _ e) hkp)]
      exact sm _ _ e
     ·rw [List.getElem?_append_right (by omega), hyl]
      rfl
     ·rw [aH nD, au]
   | 1, hx =>
    cases hx
    obtain ⟨k0, e0, f0, m0, z0⟩ := g0 (by omega)
    refine ⟨_, rfl, tp1, _, _, _, rfl, rfl, SqT.of (sm _ _ A1.tup), rfl, bl1, _, rfl, .inl (SqL.of (sm _ _ A1.kb.bls)), fun kp hkp => qq _ _ ?_ ?_⟩
    ·rw [aH (aJ xD hkp)]
     exact xD
    ·have nD : kp ≠ D := (aJ xD hkp).symm
     refine ⟨hD, fun b o e => ?_, au, by rw [List.length_append, hyl]; rfl, fun _ => ⟨k0, ?_, f0, m0, ?_⟩, fun _ => ⟨kp, ?_, sm.free hkp, nD, ?_⟩⟩
     ·rw [aH (aJ e hD), aH (aJ (sm _ _ e) hkp)]
      exact sm _ _ e
     ·rw [List.getElem?_append_left (by omega)]
      exact e0
     ·rw [aH m0, aH (aJ z0 hkp)]
      exact z0
     ·rw [List.getElem?_append_right (by omega), hyl]
      rfl
     ·rw [aH nD, au]
   | n + 2, hx => simp at hx
  ·obtain ⟨_, sm, xD, hyl, g0, g1⟩ := hP
   obtain ⟨k0, e0, f0, m0, z0⟩ := g0 (by show 1 ≤ 2; decide)
   obtain ⟨k1, e1, f1, m1, z1⟩ := g1 (by show 2 ≤ 2; decide)
   obtain ⟨y0, y1, rfl⟩ := two hyl
   cases e0
   cases e1
   refine ⟨_, rfl, _, rfl, sa, _, rfl, sm.seq hSX, fun l4 hl4 => ?_⟩
   have e24 : jo (zs.map V.int) none (some 24) = (zs.take 24).map V.int := Cw zs 24
   rw [e24]
   have s8 := aA hl4 (.lst ((zs.take 24).map V.int))
   have x4 : upd Z l4 (.lst ((zs.take 24).map V.int)) l4 = some (.lst ((zs.take 24).map V.int)) := au
   generalize upd Z l4 (.lst ((zs.take 24).map V.int)) = Z1 at *
   refine ⟨_, rfl, _, rfl, l4, _, rfl, SqL.of x4, fun l5 hl5 => ?_⟩
   have s9 := aA hl5 (.lst ((zs.take 24).map V.int).reverse)
   refine ⟨l4, l5, _, _, rfl, rfl, s9 _ _ x4, au, ?_, fun l6 hl6 => ?_⟩
   ·rw [List.length_reverse, List.length_map, List.length_take, sizeLine_eq]
    omega
   have s10 := aA hl6 (.lst ((zs.take 24).map V.int ++ ((zs.take 24).map V.int).reverse))
   rw [← List.map_reverse, ← List.map_append] at *
   have x6 : upd (upd Z1 l5 (.lst ((zs.take 24).reverse.map V.int))) l6 (.lst ((zs.take 24 ++ (zs.take 24).reverse).map V.int)) l6 = some (.lst ((zs.take 24 ++ (zs.take 24).reverse).map V.int)) := au
   have aX := sm.trans (s8.trans (s9.trans s10))
   have aZ := s8.trans (s9.trans s10)
   generalize upd (upd Z1 l5 (.lst ((zs.take 24).reverse.map V.int))) l6 (.lst ((zs.take 24 ++ (zs.take 24).reverse).map V.int)) = W0 at *
   have hT0 := TabAt.same hTX aX
   have hTh0 := TabAt.same hThX aX
   have f : ∀ {Y : Hp} {b : Addr} {o : HO}, Kt a.tP_heap_look a.tP_law_look W0 Y → W0 b = some o → (∀ ps, o ≠ .tbl ps) → Y b = some o := fun k e n => k _ _ e (TabAt.ne hTh0 e n) (TabAt.ne hT0 e n)
   have A0' : ∀ {Y : Hp}, Kt a.tP_heap_look a.tP_law_look W0 Y → jn Y tp0 ds0 t0 ah0 nd0 bl0 r0 lows0 S0 xs0 rx0 := fun k => A0.kept (G := G) n01 n02 n03 (fun b us e => f k (aX _ _ e) nofun) (fun b us e _ => f k (aX _ _ e) nofun)
   have A1' : ∀ {Y : Hp}, Kt a.tP_heap_look a.tP_law_look W0 Y → jn Y tp1 ds1 t1 ah1 nd1 bl1 r1 lows1 S1 xs1 rx1 := fun k => A1.kept (G := G) n11 n12 n13 (fun b us e => f k (aX _ _ e) nofun) (fun b us e _ => f k (aX _ _ e) nofun)
   refine ⟨l6, rfl, ⟨_, SqL.of x6⟩, ?_⟩
   refine dG (xs := (zs.take 24 ++ (zs.take 24).reverse).map V.int) (fun i σ Y => (∃ k8, σ = [some (.ref sa), some (.ref tr), some (.ref li), some (.ref l4), k4, k5, k6, some (.ref D), k8]) ∧ Kt a.tP_heap_look a.tP_law_look W0 Y ∧ TabAt Y a.tP_heap_look (gh bH) bh.qual ∧ TabAt Y a.tP_law_look (p7 cQ) bA.qual) ⟨⟨none, rfl⟩, fun _ _ e _ _ => e, hTh0, hT0⟩ ?_ ?_ ?_
   ·rintro i σ Y _ ⟨_, k, _⟩
    exact SqL.of (f k x6 nofun)
   ·rintro i x σ Y hx ⟨⟨k8, rfl⟩, k, hTh', hT'⟩
    obtain ⟨z, hz, rfl⟩ := int_at hx
    have fin : ∀ H', Kt a.tP_heap_look a.tP_law_look Y H' → Kt a.tP_heap_look a.tP_law_look W0 H' := fun H' k' b o e n1 n2 => k' b o (k b o e n1 n2) n1 n2
    have z2 : z % 2 = 0 ∨ z % 2 = 1 := by omega
    rcases z2 with z2 | z2
    ·refine ⟨_, rfl, _, rfl, _, _, rfl, rfl, (by show (0 : Int) < 2; decide), tr, _, _, _, rfl, rfl, SqL.of (f k (aX _ _ xtr) nofun), (by show atI _ (z % 2) = _; rw [z2]; rfl), _, rfl, tp0, z, ds0, t0, ah0, nd0, bl0, r0, lows0, S0, xs0, rx0, rfl, A0' k, hTh', hT', fun H' k' t1 t2 => ⟨true, rfl, cW ⟨⟨_, rfl⟩, fin H' k', t1, t2⟩⟩⟩
    ·refine ⟨_, rfl, _, rfl, _, _, rfl, rfl, (by show (0 : Int) < 2; decide), tr, _, _, _, rfl, rfl, SqL.of (f k (aX _ _ xtr) nofun), (by show atI _ (z % 2) = _; rw [z2]; rfl), _, rfl, tp1, z, ds1, t1, ah1, nd1, bl1, r1, lows1, S1, xs1, rx1, rfl, A1' k, hTh', hT', fun H' k' t1 t2 => ⟨true, rfl, cW ⟨⟨_, rfl⟩, fin H' k', t1, t2⟩⟩⟩
   ·rintro σ Y ⟨⟨k8, rfl⟩, k, hTh', hT'⟩
    have B0 := A0' k
    have B1 := A1' k
    refine ⟨_, rfl, tr, rfl, ⟨_, SqL.of (f k (aX _ _ xtr) nofun)⟩, ?_⟩
    refine wg (xs := [.ref tp0, .ref tp1]) (fun E i ys Z => Y E = none ∧ aY Y Z ∧ Z E = some (.lst ys) ∧ ys.length = i ∧ (1 ≤ i → ys[0]? = some (.ref bl0)) ∧ (2 ≤ i → ys[1]? = some (.ref bl1))) (by show 2 < sizeLine; decide) (fun E hE => ⟨hE, aA hE _, au, rfl, fun z => by omega, fun z => by omega⟩) (fun E i ys Z h => ⟨h.2.2.1, SqL.of (h.2.1 _ _ (f k (aX _ _ xtr) nofun)), h.2.2.2.1⟩) (fun _ _ _ q => q) (fun E i x ys Z Q hx hP qq => ?_) (fun E ys Z hE hP => ?_)
    ·obtain ⟨hE, sm', xE, hyl, g0, g1⟩ := hP
     match i, hx with
     | 0, hx =>
      cases hx
      refine ⟨_, rfl, tp0, _, _, _, rfl, rfl, SqT.of (sm' _ _ B0.tup), rfl, qq _ _ xE ⟨hE, bL sm' hE _, au, by rw [List.length_append, hyl]; rfl, fun _ => ?_, fun z => by omega⟩⟩
      rw [List.getElem?_append_right (by omega), hyl]
      rfl
     | 1, hx =>
      cases hx
      refine ⟨_, rfl, tp1, _, _, _, rfl, rfl, SqT.of (sm' _ _ B1.tup), rfl, qq _ _ xE ⟨hE, bL sm' hE _, au, by rw [List.length_append, hyl]; rfl, fun _ => ?_, fun _ => ?_⟩⟩
      ·rw [List.getElem?_append_left (by omega)]
       exact g0 (by omega)
      ·rw [List.getElem?_append_right (by omega), hyl]
       rfl
     | n + 2, hx => simp at hx
    ·obtain ⟨_, sm', xE, hyl, g0, g1⟩ := hP
     have h0 := g0 (by show 1 ≤ 2; decide)
     have h1 := g1 (by show 2 ≤ 2; decide)
     obtain ⟨y0, y1, rfl⟩ := two hyl
     cases h0
     cases h1
     have t2 := zx (cV (brk ds0 0)) (cV (brk ds1 0))
     refine ⟨_, rfl, .inr ⟨_, _, .lst (SqL.of xE) (.cons (.lst (SqL.of (sm' _ _ B0.kb.bls)) (gk _)) (.cons (.lst (SqL.of (sm' _ _ B1.kb.bls)) (gk _)) .nil)), .lst (SqL.of (sm' _ _ (f k (aZ _ _ xD) nofun))) (.cons (.lst (SqL.of (sm' _ _ (f k (aZ _ _ z0) nofun))) (gk _)) (.cons (.lst (SqL.of (sm' _ _ (f k (aZ _ _ z1) nofun))) (gk _)) .nil)), t2.1, t2.1, ?_⟩⟩
     rw [t2.2]
     refine ⟨_, rfl, cW ?_⟩
     have fl := sm' _ _ (f k (aX _ _ xli) nofun)
     have fb : ∀ {b : Addr} {o : HO}, X b = some o → (∀ ps, o ≠ .tbl ps) → Z b = some o := fun e n => sm' _ _ (f k (aX _ _ e) n)
     refine ⟨_, rfl, li, _, _, _, rfl, rfl, SqL.of fl, rfl, lp0, _, _, _, rfl, rfl, SqT.of (fb b01 nofun), rfl, _, rfl, li, _, _, _, rfl, rfl, SqL.of fl, rfl, lp0, _, _, _, rfl, rfl, SqT.of (fb b01 nofun), rfl, .inl ⟨d0, c0, es0, es0, rfl, rfl, SqL.of (fb b02 nofun), SqL.of (fb b03 nofun), ?_⟩⟩
     rw [decide_eq_true rfl]
     refine ⟨_, rfl, dN ⟨_, rfl, li, _, _, _, rfl, rfl, SqL.of fl, rfl, lp1, _, _, _, rfl, rfl, SqT.of (fb b11 nofun), rfl, _, rfl, li, _, _, _, rfl, rfl, SqL.of fl, rfl, lp1, _, _, _, rfl, rfl, SqT.of (fb b11 nofun), rfl, .inl ⟨d1, c1, es1, es1, rfl, rfl, SqL.of (fb b12 nofun), SqL.of (fb b13 nofun), ?_⟩⟩⟩
     rw [decide_eq_true rfl]
     exact q _
end
theorem El {l : PySem.W.OpenLaw} {w : World} {K : PySem.W.Frag} {h : Heap} {mg : Str → Option Value} {fa f0 f1 f2 f3 f4 f5 f6 f7 f8 f9 f10 f11 f12 f13 f14 f15 f16 f17 f18 f19 f20 f21 f22 f23 f24 f25 f26 f27 f28 f29 f30 f31 f32 f33 f34 f35 f36 f37 f38 f39 f40 f41 f42 f43 f44 f45 f46 f47 f48 f49 f50 f51 f52 f53 f54 f55 f56 f57 f58 f59 f60 f61 f62 f63 f64 f65 f66 f67 f68 f69 f70 f71 f72 f73 f74 f75 f76 f77 : Addr} {e0 e1 e2 e3 e4 e5 e6 e7 e8 e9 e10 e11 e12 e13 e14 e15 e16 e17 e18 e19 e20 e21 e22 e23 e24 e25 e26 e27 e28 e29 e30 e31 e32 e33 e34 e35 e37 e38 e39 e40 e41 e42 e43 e44 e45 e46 e47 e48 e49 e50 e51 e52 e53 e54 e55 e56 e57 e58 e59 e60 e61 e62 e63 e64 e65 e66 e67 e68 e69 e70 e71 e72 e73 e75 e76 e77 : FuncData} {od36 an36 od74 an74 : Option Addr} {sl36 sl74 : Array (Option Value)} {oc36 kV36 dc36 pm36 ct36 oc74 kV74 dc74 pm74 ct74 : Value} {tt_BLOCK_BITS tt_MOST_BITS tt_MOST_NODES tt_MOST_NUMBERS : Tok} {c_NoNode : Addr} {tc_heap_look tP_heap_look tc_law_look tP_law_look : Addr} {to_heap_look to_law_look : Value} {td_heap_look td_law_look : Option Addr} {tv_heap_look tv_law_look : Array Value} {ts_heap_look ts_law_look : Array (Option Value)} {qq : Program} {loose : List Str} {mb : Str → Option Value} {mean : ExcName → Option Value} (X : K.In h) (TT : PyProof.Rows.Top qq loose mean mg mb h) (hfa : mg "law" = some (.ref fa))
  (d0 : FI K "packed" qL f0 e0)
  (d1 : FI K "check_row" jy f1 e1)
  (d2 : FI K "block_of" lJ f2 e2)
  (d3 : FI K "bit_in" qx f3 e3)
  (d4 : FI K "bits_of" m5 f4 e4)
  (d5 : FI K "ones_in" m8 f5 e5)
  (d6 : FI K "one_in" rE f6 e6)
  (d7 : FI K "nets_of" oF f7 e7)
  (d8 : FI K "low_in" qC f8 e8)
  (d9 : FI K "first_low_in" gb f9 e9)
  (d10 : FI K "last_low_in" gD f10 e10)
  (d11 : FI K "heap_of" m7 f11 e11)
  (d12 : FI K "size_of" n6 f12 e12)
  (d13 : FI K "lesser_of" jq f13 e13)
  (d14 : FI K "least_of" kW f14 e14)
  (d15 : FI K "first_at_most" eQ f15 e15)
  (d16 : FI K "last_at_most" gm f16 e16)
  (d17 : FI K "place_beneath" eV f17 e17)
  (d18 : FI K "check_stretch" fj f18 e18)
  (d19 : FI K "cover" uQ f19 e19)
  (d20 : FI K "kept_row" kJ f20 e20)
  (d21 : FI K "ahead_of" kO f21 e21)
  (d22 : FI K "check_place" gJ f22 e22)
  (d23 : FI K "bit_at" qQ f23 e23)
  (d24 : FI K "ones_at" oW f24 e24)
  (d25 : FI K "one_place" jt f25 e25)
  (d26 : FI K "check_nth" jH f26 e26)
  (d27 : FI K "last_no_greater" dI f27 e27)
  (d28 : FI K "is_tree" oG f28 e28)
  (d29 : FI K "check_brackets" dO f29 e29)
  (d30 : FI K "kept_brackets" eX f30 e30)
  (d31 : FI K "low_of" qw f31 e31)
  (d32 : FI K "base_of" oY f32 e32)
  (d33 : FI K "start_within" fM f33 e33)
  (d34 : FI K "end_within" iJ f34 e34)
  (d35 : FI K "block_count" gB f35 e35)
  (a36 : PySem.W.nsIn K mainGlobals "heap_look" = some (some (.ref f36))) (l36 : K.lookup f36 = some ⟨oc36, od36, .func (PySem.W.fnOf "heap_look" "heap_look" (defArgs cz) (defBody cz) (defScope cz) .none kV36 dc36 pm36 an36 (.ref tc_heap_look) ct36), sl36⟩) (c36 : PySem.W.codeIn K (.ref tc_heap_look) "heap_look" = true) (k36 : PySem.W.keepIn K (.ref f36) = true)
  (tl_heap_look : K.lookup tc_heap_look = some ⟨to_heap_look, td_heap_look, .fields tv_heap_look, ts_heap_look⟩) (tp_heap_look : tv_heap_look[11]? = some (.ref tP_heap_look)) (tr_heap_look : ∃ d, (PyProof.Rows.recsOf qq).find? (fun e => e.name == ("heap_look" : Str)) = some d)
  (d37 : FI K "height" qU f37 e37)
  (d38 : FI K "lowest" qI f38 e38)
  (d39 : FI K "lowest_within" eZ f39 e39)
  (d40 : FI K "low_behind" jb f40 e40)
  (d41 : FI K "first_within" fY f41 e41)
  (d42 : FI K "place_of_bit" fW f42 e42)
  (d43 : FI K "low_ahead" jL f43 e43)
  (d44 : FI K "last_low_upto" eU f44 e44)
  (d45 : FI K "last_within" gH f45 e45)
  (d46 : FI K "check_bracket" fc f46 e46)
  (d47 : FI K "closing" nC f47 e47)
  (d48 : FI K "opening" nU f48 e48)
  (d49 : FI K "further_out" gM f49 e49)
  (d50 : FI K "node_count" iK f50 e50)
  (d51 : FI K "check_node" iC f51 e51)
  (d52 : FI K "node_at" nQ f52 e52)
  (d53 : FI K "place_of" lg f53 e53)
  (d54 : FI K "depth_of" kj f54 e54)
  (d55 : FI K "elder_of" lF f55 e55)
  (d56 : FI K "first_of" lE f56 e56)
  (d57 : FI K "younger_of" iZ f57 e57)
  (d58 : FI K "older_of" lG f58 e58)
  (d59 : FI K "beneath_of" iH f59 e59)
  (d60 : FI K "up_of" uJ f60 e60)
  (d61 : FI K "is_over" oX f61 e61)
  (d62 : FI K "common_of" jD f62 e62)
  (d63 : FI K "check_depths" gq f63 e63)
  (d64 : FI K "brackets_of" gG f64 e64)
  (d65 : FI K "kept_tree" jJ f65 e65)
  (d66 : FI K "_law_whole" jm f66 e66)
  (d67 : FI K "_law_great" jx f67 e67)
  (d68 : FI K "_law_depths" iR f68 e68)
  (d69 : FI K "_law_rows" lz f69 e69)
  (d70 : FI K "_law_up" rB f70 e70)
  (d71 : FI K "_law_due" nu f71 e71)
  (d72 : FI K "_law_asked" jM f72 e72)
  (d73 : FI K "_law_same" kI f73 e73)
  (a74 : PySem.W.nsIn K mainGlobals "_law_look" = some (some (.ref f74))) (l74 : K.lookup f74 = some ⟨oc74, od74, .func (PySem.W.fnOf "_law_look" "_law_look" (defArgs cJ) (defBody cJ) (defScope cJ) .none kV74 dc74 pm74 an74 (.ref tc_law_look) ct74), sl74⟩) (c74 : PySem.W.codeIn K (.ref tc_law_look) "_law_look" = true) (k74 : PySem.W.keepIn K (.ref f74) = true)
  (tl_law_look : K.lookup tc_law_look = some ⟨to_law_look, td_law_look, .fields tv_law_look, ts_law_look⟩) (tp_law_look : tv_law_look[11]? = some (.ref tP_law_look)) (tr_law_look : ∃ d, (PyProof.Rows.recsOf qq).find? (fun e => e.name == ("_law_look" : Str)) = some d)
  (d75 : FI K "_law_few" oH f75 e75)
  (d76 : FI K "_law_good" lD f76 e76)
  (d77 : FI K "law" Bt f77 e77)
  (z_bool : PySem.W.nsIn K mainGlobals "bool" = some none)
  (z_enumerate : PySem.W.nsIn K mainGlobals "enumerate" = some none)
  (z_int : PySem.W.nsIn K mainGlobals "int" = some none)
  (z_isinstance : PySem.W.nsIn K mainGlobals "isinstance" = some none)
  (z_len : PySem.W.nsIn K mainGlobals "len" = some none)
  (z_list : PySem.W.nsIn K mainGlobals "list" = some none)
  (z_max : PySem.W.nsIn K mainGlobals "max" = some none)
  (z_min : PySem.W.nsIn K mainGlobals "min" = some none)
  (z_range : PySem.W.nsIn K mainGlobals "range" = some none)
  (z_reversed : PySem.W.nsIn K mainGlobals "reversed" = some none)
  (z_set : PySem.W.nsIn K mainGlobals "set" = some none)
  (z_sum : PySem.W.nsIn K mainGlobals "sum" = some none)
  (z_tuple : PySem.W.nsIn K mainGlobals "tuple" = some none)
  (z_zip : PySem.W.nsIn K mainGlobals "zip" = some none)
  (g_BLOCK_BITS : PySem.W.nsIn K mainGlobals "BLOCK_BITS" = some (some (.int 32 tt_BLOCK_BITS)))
  (g_MOST_BITS : PySem.W.nsIn K mainGlobals "MOST_BITS" = some (some (.int 4096 tt_MOST_BITS)))
  (g_MOST_NODES : PySem.W.nsIn K mainGlobals "MOST_NODES" = some (some (.int 2048 tt_MOST_NODES)))
  (g_MOST_NUMBERS : PySem.W.nsIn K mainGlobals "MOST_NUMBERS" = some (some (.int 4096 tt_MOST_NUMBERS)))
  (q_NoNode : PySem.W.nsIn K mainGlobals "NoNode" = some (some (.ref c_NoNode)))
  (ex_NoNode : PySem.W.excIn K c_NoNode bmV "ValueError.__new__" = true)
  (ed_NoNode : PySem.W.hasDictIn K c_NoNode = true)
  (ega_NoNode : PySem.W.findIn K (.ref c_NoNode) "__getattribute__" = some (some (.builtin "BaseException.__getattribute__")))
  (eng_NoNode : PySem.W.findIn K (.ref c_NoNode) "__getattr__" = some none)
  (ecl_NoNode : PySem.W.findIn K (.ref c_NoNode) "__class__" = some (some (.builtin "object.__class__")))
  (egt_NoNode : PySem.W.specialIn K (.builtin "object.__class__") "__get__" = some (some (.builtin "getset_descriptor.__get__")))
  (etk_NoNode : PySem.W.takesIn K (.builtin "object.__class__") = some true)
  (emo_NoNode : PySem.W.mroIn K c_NoNode (.type "object") = some true)
  (emb_NoNode : PySem.W.mroIn K c_NoNode (.type "BaseException") = some true)
  (i_NoNode_NoNode : PySem.W.kitOne K (.ref c_NoNode) (.ref c_NoNode) = some true)
  (i_NoNode_ValueError : PySem.W.kitOne K (.ref c_NoNode) (.type "ValueError") = some true)
  (nt : PySem.W.noTabs K = true)
  (nn_heap_look_law_look : tP_heap_look ≠ tP_law_look) :
  ∃ (fd : FuncData) (tabs : List (Addr × Addr)) (sp : Sp), (∀ (s : Shared) (v : Value), BindsTo s fd ⟨[v], []⟩ [("_law_script", v)]) ∧ PySem.W.TabsAt tabs h ∧ PySem.W.noTabs K = true ∧ (∀ base : Heap, K.In base → base.Ns mainGlobals mg → BMain mg base → (∀ q ∈ tabs, PySem.W.CodeHd base q.1 q.2) → bj l.prog w K mg base CX0 14 fa fd ["_law_script"] sp) ∧
   ∀ (H : Hp) (a : Addr) (ns : List Int), ns.length ≤ 63 → SqL K H a (ns.map V.int) → (∀ q ∈ tabs, H q.2 = some (.tbl #[])) → sp [.ref a] H (fun v _ => v = .bl true) fun _ _ _ => False := by
 have G := TT.g
 have e := hfa.symm.trans (PySem.W.mg_of X G d77.a)
 cases e
 obtain ⟨_, _, _, _, _, _, _, _, _, rfl, _, _⟩ := d77.F.ex
 have F36 := wZ (st := cz) l36 c36 k36
 have D36 : Df K mg "heap_look" cz ["tables"] _ _ := ⟨F36, F36.binds (ps := ["tables"]) fun _ _ _ _ _ _ us hl => Ei (C := fun us => bindArgs _ ⟨us, []⟩ = pure (List.zip (["tables"] : List Str) us)) hl (fun _ => rfl), PySem.W.mg_of X G a36⟩
 have F74 := wZ (st := cJ) l74 c74 k74
 have D74 : Df K mg "_law_look" cJ ["_law_blocks", "_law_seen"] _ _ := ⟨F74, F74.binds (ps := ["_law_blocks", "_law_seen"]) fun _ _ _ _ _ _ us hl => Ea (C := fun us => bindArgs _ ⟨us, []⟩ = pure (List.zip (["_law_blocks", "_law_seen"] : List Str) us)) hl (fun _ _ => rfl), PySem.W.mg_of X G a74⟩
 have T : Tx K mg ⟨tc_heap_look, tP_heap_look, tc_law_look, tP_law_look, _, _, _, _, _, _, _, _, _, _, _, _, _, _, _, _, _, _, _, _, _, _, _, _, _, _, _, _, _, _, _, _, _, _, _, _, _, _, _, _, _, _, _, _, _, _, _, _, _, _, _, _, _, _, _, _, _, _, _, _, _, _, _, _, _, _, _, _, _, _, _, _, _, _, _, _, _, _, _, _, _, _, _, _, _, _, _, _, _, _, _, _, _, _, _, _, _, _, _, _, _, _, _, _, _, _, _, _, _, _, _, _, _, _, _, _, _, _, _, _, _, _, _, _, _, _, _, _, _, _, _, _, _, _, _, _, _, _, _, _, _, _, _, _, _, _, _, _, _, _, _, _, _, _, _, _, _, _, _, _, c_NoNode⟩ := ⟨df1 X G d0 fun _ _ _ _ _ _ _ => rfl, df1 X G d1 fun _ _ _ _ _ _ _ => rfl, df1 X G d2 fun _ _ _ _ _ _ _ => rfl, df2 X G d3 fun _ _ _ _ _ _ _ _ => rfl, df2 X G d4 fun _ _ _ _ _ _ _ _ => rfl, df2 X G d5 fun _ _ _ _ _ _ _ _ => rfl, df2 X G d6 fun _ _ _ _ _ _ _ _ => rfl, df2 X G d7 fun _ _ _ _ _ _ _ _ => rfl, df2 X G d8 fun _ _ _ _ _ _ _ _ => rfl, df4 X G d9 fun _ _ _ _ _ _ _ _ _ _ => rfl, df4 X G d10 fun _ _ _ _ _ _ _ _ _ _ => rfl, df1 X G d11 fun _ _ _ _ _ _ _ => rfl, df1 X G d12 fun _ _ _ _ _ _ _ => rfl, df2 X G d13 fun _ _ _ _ _ _ _ _ => rfl, df4 X G d14 fun _ _ _ _ _ _ _ _ _ _ => rfl, df4 X G d15 fun _ _ _ _ _ _ _ _ _ _ => rfl, df4 X G d16 fun _ _ _ _ _ _ _ _ _ _ => rfl, df5 X G d17 fun _ _ _ _ _ _ _ _ _ _ _ => rfl, df3 X G d18 fun _ _ _ _ _ _ _ _ _ => rfl, df3 X G d19 fun _ _ _ _ _ _ _ _ _ => rfl, df1 X G d20 fun _ _ _ _ _ _ _ => rfl, df1 X G d21 fun _ _ _ _ _ _ _ => rfl, df2 X G d22 fun _ _ _ _ _ _ _ _ => rfl, df3 X G d23 fun _ _ _ _ _ _ _ _ _ => rfl, df3 X G d24 fun _ _ _ _ _ _ _ _ _ => rfl, df3 X G d25 fun _ _ _ _ _ _ _ _ _ => rfl, df2 X G d26 fun _ _ _ _ _ _ _ _ => rfl, df2 X G d27 fun _ _ _ _ _ _ _ _ => rfl, df1 X G d28 fun _ _ _ _ _ _ _ => rfl, df1 X G d29 fun _ _ _ _ _ _ _ => rfl, df1 X G d30 fun _ _ _ _ _ _ _ => rfl, df3 X G d31 fun _ _ _ _ _ _ _ _ _ => rfl, df2 X G d32 fun _ _ _ _ _ _ _ _ => rfl, df2 X G d33 fun _ _ _ _ _ _ _ _ => rfl, df2 X G d34 fun _ _ _ _ _ _ _ _ => rfl, df1 X G d35 fun _ _ _ _ _ _ _ => rfl, D36, df3 X G d37 fun _ _ _ _ _ _ _ _ _ => rfl, df4 X G d38 fun _ _ _ _ _ _ _ _ _ _ => rfl, df5 X G d39 fun _ _ _ _ _ _ _ _ _ _ _ => rfl, df4 X G d40 fun _ _ _ _ _ _ _ _ _ _ => rfl, df5 X G d41 fun _ _ _ _ _ _ _ _ _ _ _ => rfl, df2 X G d42 fun _ _ _ _ _ _ _ _ => rfl, df4 X G d43 fun _ _ _ _ _ _ _ _ _ _ => rfl, df4 X G d44 fun _ _ _ _ _ _ _ _ _ _ => rfl, df5 X G d45 fun _ _ _ _ _ _ _ _ _ _ _ => rfl, df4 X G d46 fun _ _ _ _ _ _ _ _ _ _ => rfl, df3 X G d47 fun _ _ _ _ _ _ _ _ _ => rfl, df3 X G d48 fun _ _ _ _ _ _ _ _ _ => rfl, df4 X G d49 fun _ _ _ _ _ _ _ _ _ _ => rfl, df1 X G d50 fun _ _ _ _ _ _ _ => rfl, df2 X G d51 fun _ _ _ _ _ _ _ _ => rfl, df3 X G d52 fun _ _ _ _ _ _ _ _ _ => rfl, df3 X G d53 fun _ _ _ _ _ _ _ _ _ => rfl, df3 X G d54 fun _ _ _ _ _ _ _ _ _ => rfl, df3 X G d55 fun _ _ _ _ _ _ _ _ _ => rfl, df3 X G d56 fun _ _ _ _ _ _ _ _ _ => rfl, df3 X G d57 fun _ _ _ _ _ _ _ _ _ => rfl, df3 X G d58 fun _ _ _ _ _ _ _ _ _ => rfl, df3 X G d59 fun _ _ _ _ _ _ _ _ _ => rfl, df4 X G d60 fun _ _ _ _ _ _ _ _ _ _ => rfl, df4 X G d61 fun _ _ _ _ _ _ _ _ _ _ => rfl, df4 X G d62 fun _ _ _ _ _ _ _ _ _ _ => rfl, df1 X G d63 fun _ _ _ _ _ _ _ => rfl, df1 X G d64 fun _ _ _ _ _ _ _ => rfl, df1 X G d65 fun _ _ _ _ _ _ _ => rfl, df1 X G d66 fun _ _ _ _ _ _ _ => rfl, df1 X G d67 fun _ _ _ _ _ _ _ => rfl, df1 X G d68 fun _ _ _ _ _ _ _ => rfl, df1 X G d69 fun _ _ _ _ _ _ _ => rfl, df3 X G d70 fun _ _ _ _ _ _ _ _ _ => rfl, df4 X G d71 fun _ _ _ _ _ _ _ _ _ _ => rfl, df5 X G d72 fun _ _ _ _ _ _ _ _ _ _ _ => rfl, df2 X G d73 fun _ _ _ _ _ _ _ _ => rfl, D74, df3 X G d75 fun _ _ _ _ _ _ _ _ _ => rfl, df2 X G d76 fun _ _ _ _ _ _ _ _ => rfl, df1 X G d77 fun _ _ _ _ _ _ _ => rfl, PySem.W.mg_none_of X G z_bool, PySem.W.mg_none_of X G z_enumerate, PySem.W.mg_none_of X G z_int, PySem.W.mg_none_of X G z_isinstance, PySem.W.mg_none_of X G z_len, PySem.W.mg_none_of X G z_list, PySem.W.mg_none_of X G z_max, PySem.W.mg_none_of X G z_min, PySem.W.mg_none_of X G z_range, PySem.W.mg_none_of X G z_reversed, PySem.W.mg_none_of X G z_set, PySem.W.mg_none_of X G z_sum, PySem.W.mg_none_of X G z_tuple, PySem.W.mg_none_of X G z_zip, PySem.W.mg_of X G g_BLOCK_BITS, PySem.W.mg_of X G g_MOST_BITS, PySem.W.mg_of X G g_MOST_NODES, PySem.W.mg_of X G g_MOST_NUMBERS, PySem.W.mg_of X G q_NoNode, ⟨PySem.W.mg_of X G q_NoNode, ex_NoNode⟩, ⟨ed_NoNode, ega_NoNode, eng_NoNode, ecl_NoNode, egt_NoNode, etk_NoNode, emo_NoNode, emb_NoNode⟩, i_NoNode_NoNode, i_NoNode_ValueError, rfl, rfl⟩
 obtain ⟨d_heap_look, tr_heap_look⟩ := tr_heap_look
 have tb_heap_look := PySem.W.tab_of TT X tr_heap_look (wD a36 l36 rfl tl_heap_look tp_heap_look)
 obtain ⟨d_law_look, tr_law_look⟩ := tr_law_look
 have tb_law_look := PySem.W.tab_of TT X tr_law_look (wD a74 l74 rfl tl_law_look tp_law_look)
 exact ⟨_, [(tc_heap_look, tP_heap_look), (tc_law_look, tP_law_look)], sp_law K tP_heap_look tP_law_look, fun s v => .of_eq rfl, List.forall_mem_cons.mpr ⟨tb_heap_look, List.forall_mem_cons.mpr ⟨tb_law_look, fun _ z => nomatch z⟩⟩, nt, fun base _ _ bm hc => Gf T ⟨bm, hc _ (.head _), hc _ (.tail _ (.head _)), nn_heap_look_law_look⟩, fun H a ns hl hS hTb => zL hS hl (hTb _ (.head _)) (hTb _ (.tail _ (.head _)))⟩
end Tw
namespace Tp
open PySem
noncomputable section
abbrev O := Params → Obj
def sq (l : List Str) : Nat → List Value := @List.rec Str (fun _ => Nat → List Value) (fun _ => []) (fun s _ ih t => Value.str s t :: ih (Nat.add t 1)) l
def ap {α : Type} (a b : List α) : List α := @List.rec α (fun _ => List α) b (fun x _ r => x :: r) a
def tk {α : Type} (l : List α) : Nat → List α := @List.rec α (fun _ => Nat → List α) (fun _ => []) (fun x _ ih n => @Nat.rec (fun _ => List α) [] (fun m _ => x :: ih m) n) l
def mp {α β : Type} (f : α → β) (l : List α) : List β := @List.rec α (fun _ => List β) [] (fun x _ r => f x :: r) l
def ov (l : List O) : List (Nat × O) → List O := @List.rec O (fun _ => List (Nat × O) → List O) (fun _ => []) (fun x _ ih ex => @List.rec (Nat × O) (fun _ => List O) (x :: ih []) (fun e r _ => @Nat.rec (fun _ => List O) (e.2 :: ih r) (fun g _ => x :: ih ((g, e.2) :: r)) e.1) ex) l
def ev (l : List Obj) : Bool → List Obj := @List.rec Obj (fun _ => Bool → List Obj) (fun _ => []) (fun x _ ih b => @Bool.rec (fun _ => List Obj) (ih true) (x :: ih false) b) l
def bt (n : Nat) : List Obj → PySem.W.BT := @Nat.rec (fun _ => List Obj → PySem.W.BT) (fun _ => .nil) (fun _ ih l => @List.rec Obj (fun _ => PySem.W.BT) .nil (fun x xs _ => .node x (ih (ev xs true)) (ih (ev xs false))) l) n
def Z (s : Str) (t : Nat) (v : Value) (P : Params) : DictEntry := .mk (PyData.keyHash P s) (.str s t) v
def E (s : Str) (t r : Nat) (P : Params) : DictEntry := .mk (PyData.keyHash P s) (.str s t) (.ref r)
def gd (l : List (Params → DictEntry)) (n : Nat) (P : Params) : Obj := .mk (.type "dict") none (.dict (mp (fun e => e P) l).toArray n) #[]
def tb (l : List (Nat × Nat)) (P : Params) : Obj := .mk .none none (.fields (@List.rec (Nat × Nat) (fun _ => List Value) [] (fun x _ r => .int (Int.ofNat x.1) 0 :: .int 0 0 :: .ref x.2 :: r) l).toArray) #[]
def h0 (x0 : Nat) (x1 : Nat) (x2 : Nat) (x3 : Str) : List O := [fun P => (.mk (.type "tuple") none (.seq #[(.ref 24)] 0) #[]), fun P => (.mk (.type "builtin_function_or_method") none (.fields #[(.builtin "type.__prepare__"), (.type "type")]) #[]), fun P => (.mk (.type "dict") none (.dict #[(.mk (PyData.keyHash P "__module__") (.str "__module__" (Nat.add x0 7)) (.str "thinwood.errors" 187)), (.mk (PyData.keyHash P "__qualname__") (.str "__qualname__" (Nat.add x0 9)) (.str x3 (Nat.add x0 8))), (.mk (PyData.keyHash P "__firstlineno__") (.str "__firstlineno__" (Nat.add x0 11)) (.int (Int.ofNat x1) (Nat.add x0 10))), (.mk (PyData.keyHash P "__static_attributes__") (.str "__static_attributes__" (Nat.add x0 12)) (.ref (Nat.add x2 7)))] 4) #[]), fun P => (.mk (.type "tuple") none (.seq #[] 0) #[]), fun P => (.mk .none none (.fields #[]) #[]), fun P => (.mk (.type "code") none (.fields #[(.str x3 (Nat.add x0 2)), (.str x3 (Nat.add x0 3)), (.str "/claim/cut.py" (Nat.add x0 4)), (.int (Int.ofNat x1) 0), (.int 0 0), (.int 0 0), (.int 0 0), (.int 0 0), (.ref (Nat.add x2 3)), (.bool .false), (.int 181 0), (.ref (Nat.add x2 4)), .none, .none, .none, .none, (.int (Int.ofNat (Nat.add x0 5)) 0), (.int (Int.ofNat x1) 0), (.str "/claim/cut.py" (Nat.add x0 6))]) #[]), fun P => (.mk (.type "frame") none .plain #[(some (.ref (Nat.add x2 5))), (some (.ref 3)), (some (.ref (Nat.add x2 2))), none, (some (.str "thinwood.errors" 187)), none, (some (.ref 0))]), fun P => (.mk (.type "tuple") none (.seq #[] 0) #[]), fun P => (.mk (.type "dict") none (.dict #[(.mk (PyData.keyHash P "__module__") (.str "__module__" (Nat.add x0 7)) (.str "thinwood.errors" 187)), (.mk (PyData.keyHash P "__firstlineno__") (.str "__firstlineno__" (Nat.add x0 11)) (.int (Int.ofNat x1) (Nat.add x0 10))), (.mk (PyData.keyHash P "__static_attributes__") (.str "__static_attributes__" (Nat.add x0 12)) (.ref (Nat.add x2 7))), (.mk (PyData.keyHash P "__doc__") (.str "__doc__" (Nat.add x0 13)) .none)] 2) #[]), fun P => (.mk (.type "type") none (.cls (.mk x3 [(.ref 24)] [(.ref (Nat.add x2 9)), (.ref 24), (.type "ValueError"), (.type "Exception"), (.type "BaseException"), (.type "object")] (Nat.add x2 8) x3 .true [] [] .false none .false)) #[(some (.ref x2)), none, (some (.str x3 x0)), (some (.str x3 (Nat.add x0 8))), (some (.builtin "ValueError.__new__")), (some (.bool .true))]), fun P => (.mk (.type "super") none (.fields #[(.ref (Nat.add x2 9)), (.ref (Nat.add x2 9)), (.ref (Nat.add x2 9))]) #[]), fun P => (.mk (.type "builtin_function_or_method") none (.fields #[(.builtin "object.__init_subclass__"), (.ref (Nat.add x2 9))]) #[])]
def h1 (x0 : Nat) (x1 : Nat) (x2 : Nat) (x3 : Nat) (x4 : Nat) (x5 : Nat) (x6 : Str) (x7 : Str) : List O := [fun P => (.mk (.type "tuple") none (.seq #[] 0) #[]), fun P => (.mk .none none (.fields #[]) #[]), fun P => (.mk .none none (.func (FuncData.mk x6 x6 (L2.defArgs (Tw.top x0)) (FuncBody.stmts (L2.defBody (Tw.top x0))) (L2.defScope (Tw.top x0)) 0 [] .none .none .none .none none .none .none 0)) #[]), fun P => (.mk (.type "code") none (.fields #[(.str x6 x1), (.str x6 (Nat.add x1 1)), (.str "/claim/cut.py" (Nat.add x1 2)), (.int (Int.ofNat x2) 0), (.int (Int.ofNat x3) 0), (.int 0 0), (.int 0 0), (.int 3 0), (.ref x4), (.bool .true), (.int 181 0), (.ref (Nat.add x4 1)), .none, .none, .none, (.ref (Nat.add x4 2)), (.int (Int.ofNat (Nat.add x1 3)) 0), (.int (Int.ofNat x2) 0), (.str "/claim/cut.py" (Nat.add x1 4))]) #[]), fun P => (.mk (.type "function") none (.func (FuncData.mk x6 x6 (L2.defArgs (Tw.top x0)) (FuncBody.stmts (L2.defBody (Tw.top x0))) (L2.defScope (Tw.top x0)) 3 [] .none .none .none (.str x7 x5) none (.ref (Nat.add x4 3)) .none 0)) #[])]
def h2 (x0 : Nat) (x1 : Nat) (x2 : Nat) (x3 : Nat) (x4 : Nat) (x5 : Nat) (x6 : Nat) (x7 : List Str) (x8 : Str) (x9 : Str) : List O := [fun P => (.mk (.type "tuple") none (.seq #[] 0) #[]), fun P => (.mk .none none (.fields #[]) #[]), fun P => (.mk (.type "tuple") none (.seq (sq x7 (Nat.add x0 3)).toArray 0) #[]), fun P => (.mk (.type "tuple") none (.seq #[] 0) #[]), fun P => (.mk .none none (.func (FuncData.mk x8 x8 (L2.defArgs (Tw.top x1)) (FuncBody.stmts (L2.defBody (Tw.top x1))) (L2.defScope (Tw.top x1)) 0 [] .none .none .none .none none .none .none 0)) #[]), fun P => (.mk (.type "code") none (.fields #[(.str x8 x0), (.str x8 (Nat.add x0 1)), (.str "/claim/cut.py" (Nat.add x0 2)), (.int (Int.ofNat x2) 0), (.int (Int.ofNat x3) 0), (.int 0 0), (.int 0 0), (.int 3 0), (.ref x4), (.bool .true), (.int 181 0), (.ref (Nat.add x4 1)), .none, (.ref (Nat.add x4 2)), (.ref (Nat.add x4 3)), (.ref (Nat.add x4 4)), (.int (Int.ofNat x5) 0), (.int (Int.ofNat x2) 0), (.str "/claim/cut.py" (Nat.add x5 1))]) #[]), fun P => (.mk (.type "function") none (.func (FuncData.mk x8 x8 (L2.defArgs (Tw.top x1)) (FuncBody.stmts (L2.defBody (Tw.top x1))) (L2.defScope (Tw.top x1)) 3 [] .none .none .none (.str x9 x6) none (.ref (Nat.add x4 5)) .none 0)) #[])]
def g0 : List (Params → DictEntry) := [Z "__doc__" 166 .none, Z "__package__" 167 .none, Z "__loader__" 168 (.builtin "__main__.__loader__#opaque"), Z "__spec__" 169 .none, E "__annotations__" 170 6, E "__builtins__" 171 4, Z "__file__" 173 (.str "/claim/cut.py" 172), Z "__cached__" 174 .none, E "WoodError" 206 24, E "TooMany" 222 37]
def g1 : List (Params → DictEntry) := [E "NoBit" 238 49, E "NoPlace" 254 61, E "NoNode" 270 73, E "NoTree" 286 85, Z "BLOCK_BITS" 290 (.int 32 289), Z "MOST_BITS" 292 (.int 4096 291), E "packed" 298 92, E "check_row" 306 99, E "block_of" 315 106, E "bit_in" 323 113]
def g2 : List (Params → DictEntry) := [E "bits_of" 329 118, E "ones_in" 337 125, E "one_in" 348 132, E "nets_of" 359 139, E "low_in" 367 146, E "first_low_in" 379 153, E "last_low_in" 392 160, Z "MOST_NUMBERS" 396 (.int 4096 395), E "heap_of" 406 167, E "size_of" 414 174]
def g3 : List (Params → DictEntry) := [E "lesser_of" 422 181, E "least_of" 428 186, E "first_at_most" 439 193, E "last_at_most" 450 200, E "place_beneath" 462 207, E "check_stretch" 471 214, E "cover" 485 221, E "kept_row" 495 228, E "ahead_of" 504 235, E "check_place" 512 242]
def g4 : List (Params → DictEntry) := [E "bit_at" 521 249, E "ones_at" 534 256, E "one_place" 545 263, E "check_nth" 553 270, E "last_no_greater" 564 277, E "is_tree" 576 284, E "check_brackets" 583 291, E "kept_brackets" 589 296, E "low_of" 598 303, E "base_of" 606 310]
def g5 : List (Params → DictEntry) := [E "start_within" 614 317, E "end_within" 622 324, E "block_count" 629 331, E "heap_look" 637 338, E "height" 646 345, E "lowest" 659 352, E "lowest_within" 671 359, E "low_behind" 684 366, E "first_within" 697 373, E "place_of_bit" 705 380]
def g6 : List (Params → DictEntry) := [E "low_ahead" 716 387, E "last_low_upto" 729 394, E "last_within" 741 401, E "check_bracket" 751 408, E "closing" 760 415, E "opening" 769 422, E "further_out" 779 429, E "node_count" 788 436, E "check_node" 796 443, E "node_at" 805 450]
def g7 : List (Params → DictEntry) := [E "place_of" 814 457, E "depth_of" 823 464, E "elder_of" 832 471, E "first_of" 842 478, E "younger_of" 852 485, E "older_of" 862 492, E "beneath_of" 872 499, E "up_of" 883 506, E "is_over" 894 513, E "common_of" 908 520]
def g8 : List (Params → DictEntry) := [Z "MOST_NODES" 912 (.int 2048 911), E "check_depths" 921 527, E "brackets_of" 931 534, E "kept_tree" 938 541, E "_law_whole" 947 548, E "_law_great" 953 553, E "_law_depths" 967 560, E "_law_rows" 980 567, E "_law_up" 990 574, E "_law_due" 1000 581]
def g9 : List (Params → DictEntry) := [E "_law_asked" 1011 588, E "_law_same" 1019 595, E "_law_look" 1030 602, E "_law_few" 1040 609, E "_law_good" 1058 616, E "law" 1064 621]
def gg : List (Params → DictEntry) := ap g0 (ap g1 (ap g2 (ap g3 (ap g4 (ap g5 (ap g6 (ap g7 (ap g8 (g9)))))))))
def tt : List (Nat × Nat) := [(2, 20), (4, 33), (6, 45), (8, 57), (10, 69), (12, 81), (17, 91), (20, 98), (26, 105), (31, 112), (33, 117), (35, 124), (37, 131), (44, 138), (51, 145), (53, 152), (58, 159), (66, 166), (74, 173), (79, 180), (85, 185), (87, 192), (92, 199), (97, 206), (104, 213), (107, 220), (125, 227), (128, 234), (133, 241), (136, 248), (139, 255), (148, 262), (153, 269), (156, 276), (167, 283), (174, 290), (178, 295), (185, 302), (187, 309), (189, 316), (191, 323), (193, 330), (195, 337), (198, 344), (200, 351), (211, 358), (214, 365), (226, 372), (230, 379), (234, 386), (240, 393), (251, 400), (254, 407), (257, 414), (260, 421), (263, 428), (269, 435), (271, 442), (274, 449), (278, 456), (281, 463), (283, 470), (285, 477), (290, 484), (295, 491), (300, 498), (303, 505), (308, 512), (312, 519), (320, 526), (328, 533), (337, 540), (340, 547), (342, 552), (345, 559), (363, 566), (380, 573), (385, 580), (395, 587), (413, 594), (419, 601), (427, 608), (432, 615), (445, 620)]
def s0 : O := gd (Z "__name__" 165 (.str "law_thinwood_k49_whole_tree_asked" 939) :: tk gg 96) 97
def l0 : O := fun P => (.mk (.type "tuple") none (.seq #[] 0) #[])
def s1 : O := tb (tk tt 84)
def l1 : O := fun P => (.mk (.type "code") none (.fields #[(.str "<module>" 182), (.str "<module>" 183), (.str "/claim/cut.py" 184), (.int 1 0), (.int 0 0), (.int 0 0), (.int 0 0), (.int 0 0), (.ref 11), (.bool .false), (.int 181 0), (.ref 12), .none, .none, .none, .none, (.int 185 0), (.int 1 0), (.str "/claim/cut.py" 186)]) #[])
def l2 : O := fun P => (.mk (.type "frame") none .plain #[(some (.ref 13)), (some (.ref 3)), (some (.ref 3)), none, (some (.str "__main__" 164)), none, (some (.ref 0))])
def l3 : O := fun P => (.mk (.type "tuple") none (.seq #[(.type "ValueError")] 0) #[])
def l4 : O := fun P => (.mk (.type "builtin_function_or_method") none (.fields #[(.builtin "type.__prepare__"), (.type "type")]) #[])
def l5 : O := fun P => (.mk (.type "dict") none (.dict #[(.mk (PyData.keyHash P "__module__") (.str "__module__" 196) (.str "thinwood.errors" 187)), (.mk (PyData.keyHash P "__qualname__") (.str "__qualname__" 198) (.str "WoodError" 197)), (.mk (PyData.keyHash P "__firstlineno__") (.str "__firstlineno__" 200) (.int 2 199)), (.mk (PyData.keyHash P "__static_attributes__") (.str "__static_attributes__" 201) (.ref 22))] 4) #[])
def l6 : O := fun P => (.mk .none none (.fields #[]) #[])
def l7 : O := fun P => (.mk (.type "code") none (.fields #[(.str "WoodError" 191), (.str "WoodError" 192), (.str "/claim/cut.py" 193), (.int 2 0), (.int 0 0), (.int 0 0), (.int 0 0), (.int 0 0), (.ref 18), (.bool .false), (.int 181 0), (.ref 19), .none, .none, .none, .none, (.int 194 0), (.int 2 0), (.str "/claim/cut.py" 195)]) #[])
def l8 : O := fun P => (.mk (.type "frame") none .plain #[(some (.ref 20)), (some (.ref 3)), (some (.ref 17)), none, (some (.str "thinwood.errors" 187)), none, (some (.ref 0))])
def l9 : O := fun P => (.mk (.type "dict") none (.dict #[(.mk (PyData.keyHash P "__module__") (.str "__module__" 196) (.str "thinwood.errors" 187)), (.mk (PyData.keyHash P "__firstlineno__") (.str "__firstlineno__" 200) (.int 2 199)), (.mk (PyData.keyHash P "__static_attributes__") (.str "__static_attributes__" 201) (.ref 22)), (.mk (PyData.keyHash P "__weakref__") (.str "__weakref__" 203) (.ref 25)), (.mk (PyData.keyHash P "__doc__") (.str "__doc__" 204) .none)] 3) #[])
def l10 : O := fun P => (.mk (.type "type") none (.cls (.mk "WoodError" [(.type "ValueError")] [(.ref 24), (.type "ValueError"), (.type "Exception"), (.type "BaseException"), (.type "object")] 23 "WoodError" .true [] [(.ref 37), (.ref 49), (.ref 61), (.ref 73), (.ref 85)] .false none .false)) #[(some (.ref 15)), none, (some (.str "WoodError" 189)), (some (.str "WoodError" 197)), (some (.builtin "ValueError.__new__")), (some (.bool .true))])
def l11 : O := fun P => (.mk (.type "getset_descriptor") none (.fields #[(.str "__weakref__" 202), (.ref 24), (.builtin "ExceptionGroup.__weakref__"), .none]) #[])
def l12 : O := fun P => (.mk (.type "super") none (.fields #[(.ref 24), (.ref 24), (.ref 24)]) #[])
def l13 : O := fun P => (.mk (.type "builtin_function_or_method") none (.fields #[(.builtin "object.__init_subclass__"), (.ref 24)]) #[])
def d1 : List O := h0 207 4 28 "TooMany"
def d2 : List O := h0 223 6 40 "NoBit"
def d3 : List O := h0 239 8 52 "NoPlace"
def d4 : List O := h0 255 10 64 "NoNode"
def d5 : List O := h0 271 12 76 "NoTree"
def d6 : List O := h1 10 293 17 1 88 287 "packed" "thinwood.blocks"
def d7 : List O := h2 299 11 20 1 93 304 287 ["bits", "bit"] "check_row" "thinwood.blocks"
def d8 : List O := h2 307 12 26 1 100 313 287 ["bits", "block", "bit"] "block_of" "thinwood.blocks"
def d9 : List O := h2 316 13 31 2 107 321 287 ["block", "k"] "bit_in" "thinwood.blocks"
def d10 : List O := h1 14 324 33 2 114 287 "bits_of" "thinwood.blocks"
def d11 : List O := h2 330 15 35 2 119 335 287 ["block", "upto"] "ones_in" "thinwood.blocks"
def d12 : List O := h2 338 16 37 2 126 346 287 ["block", "nth", "ones", "k", "bit"] "one_in" "thinwood.blocks"
def d13 : List O := h2 349 17 44 2 133 357 287 ["block", "upto", "nets", "net", "bit"] "nets_of" "thinwood.blocks"
def d14 : List O := h2 360 18 51 2 140 365 287 ["block", "upto"] "low_in" "thinwood.blocks"
def d15 : List O := h2 368 19 53 4 147 377 287 ["block", "start", "stop", "goal", "k", "net"] "first_low_in" "thinwood.blocks"
def d16 : List O := h2 380 20 58 4 154 390 287 ["block", "start", "stop", "goal", "found", "k", "net"] "last_low_in" "thinwood.blocks"
def d17 : List O := h2 397 23 66 1 161 404 393 ["numbers", "size", "nodes", "node"] "heap_of" "thinwood.heaps"
def d18 : List O := h2 407 24 74 1 168 412 393 ["many", "size"] "size_of" "thinwood.heaps"
def d19 : List O := h2 415 25 79 2 175 420 393 ["one", "other"] "lesser_of" "thinwood.heaps"
def d20 : List O := h1 26 423 85 4 182 393 "least_of" "thinwood.heaps"
def d21 : List O := h2 429 27 87 4 187 437 393 ["many", "look", "start", "goal", "node"] "first_at_most" "thinwood.heaps"
def d22 : List O := h2 440 28 92 4 194 448 393 ["many", "look", "stop", "goal", "node"] "last_at_most" "thinwood.heaps"
def d23 : List O := h2 451 29 97 5 201 460 393 ["size", "look", "node", "goal", "side", "found"] "place_beneath" "thinwood.heaps"
def d24 : List O := h2 463 30 104 3 208 469 393 ["many", "start", "stop"] "check_stretch" "thinwood.heaps"
def d25 : List O := h2 472 31 107 3 215 483 393 ["many", "start", "stop", "size", "low", "high", "lefts", "rights"] "cover" "thinwood.heaps"
def d26 : List O := h2 488 33 125 1 222 493 486 ["bits", "blocks"] "kept_row" "thinwood.rows"
def d27 : List O := h2 496 34 128 1 229 502 486 ["blocks", "ahead", "block"] "ahead_of" "thinwood.rows"
def d28 : List O := h2 505 35 133 2 236 510 486 ["at", "most"] "check_place" "thinwood.rows"
def d29 : List O := h2 513 36 136 3 243 519 486 ["tables", "look", "at"] "bit_at" "thinwood.rows"
def d30 : List O := h2 522 37 139 3 250 532 486 ["tables", "look", "at", "many", "ahead", "number", "within"] "ones_at" "thinwood.rows"
def d31 : List O := h2 535 38 148 3 257 543 486 ["tables", "look", "nth", "ahead", "number"] "one_place" "thinwood.rows"
def d32 : List O := h2 546 39 153 2 264 551 486 ["nth", "many"] "check_nth" "thinwood.rows"
def d33 : List O := h2 554 40 156 2 271 562 486 ["numbers", "goal", "low", "high", "middle"] "last_no_greater" "thinwood.rows"
def d34 : List O := h2 567 42 167 1 278 574 565 ["bits", "level", "at", "bit"] "is_tree" "thinwood.brackets"
def d35 : List O := h2 577 43 174 1 285 581 565 ["bits"] "check_brackets" "thinwood.brackets"
def d36 : List O := h1 44 584 178 1 292 565 "kept_brackets" "thinwood.brackets"
def d37 : List O := h2 590 45 185 3 297 596 565 ["tables", "number", "block"] "low_of" "thinwood.brackets"
def d38 : List O := h2 599 46 187 2 304 604 565 ["tables", "number"] "base_of" "thinwood.brackets"
def d39 : List O := h2 607 47 189 2 311 612 565 ["number", "at"] "start_within" "thinwood.brackets"
def d40 : List O := h2 615 48 191 2 318 620 565 ["number", "upto"] "end_within" "thinwood.brackets"
def d41 : List O := h2 623 49 193 1 325 627 565 ["tables"] "block_count" "thinwood.brackets"
def l14 : O := fun P => (.mk (.type "tuple") none (.seq #[(.str "tables" 633)] 0) #[])
def l15 : O := fun P => (.mk (.type "tuple") none (.seq #[(.str "nodes" 634)] 0) #[])
def l16 : O := fun P => (.mk .none none (.func (FuncData.mk "heap_look" "heap_look" (L2.defArgs (Tw.top 50)) (FuncBody.stmts (L2.defBody (Tw.top 50))) (L2.defScope (Tw.top 50)) 0 [] .none .none .none .none none .none .none 0)) #[])
def l17 : O := fun P => (.mk (.type "code") none (.fields #[(.str "heap_look" 630), (.str "heap_look" 631), (.str "/claim/cut.py" 632), (.int 195 0), (.int 1 0), (.int 0 0), (.int 0 0), (.int 3 0), (.ref 332), (.bool .true), (.int 181 0), (.ref 333), .none, (.ref 334), (.ref 335), (.ref 336), (.int 635 0), (.int 195 0), (.str "/claim/cut.py" 636)]) #[])
def l18 : O := fun P => (.mk (.type "function") none (.func (FuncData.mk "heap_look" "heap_look" (L2.defArgs (Tw.top 50)) (FuncBody.stmts (L2.defBody (Tw.top 50))) (L2.defScope (Tw.top 50)) 3 [] .none .none .none (.str "thinwood.brackets" 565) none (.ref 337) .none 0)) #[])
def d43 : List O := h2 638 51 198 3 339 644 565 ["tables", "look", "at"] "height" "thinwood.brackets"
def d44 : List O := h2 647 52 200 4 346 657 565 ["tables", "look", "at", "upto", "first", "last", "lows"] "lowest" "thinwood.brackets"
def d45 : List O := h2 660 53 211 5 353 669 565 ["tables", "look", "number", "at", "upto", "nets"] "lowest_within" "thinwood.brackets"
def d46 : List O := h2 672 54 214 4 360 682 565 ["tables", "look", "at", "goal", "number", "found", "further"] "low_behind" "thinwood.brackets"
def d47 : List O := h2 685 55 226 5 367 695 565 ["tables", "look", "number", "at", "goal", "start", "stop"] "first_within" "thinwood.brackets"
def d48 : List O := h2 698 56 230 2 374 703 565 ["number", "within"] "place_of_bit" "thinwood.brackets"
def d49 : List O := h2 706 57 234 4 381 714 565 ["tables", "look", "at", "goal", "found"] "low_ahead" "thinwood.brackets"
def d50 : List O := h2 717 58 240 4 388 727 565 ["tables", "look", "upto", "goal", "number", "found", "further"] "last_low_upto" "thinwood.brackets"
def d51 : List O := h2 730 59 251 5 395 739 565 ["tables", "look", "number", "upto", "goal", "stop"] "last_within" "thinwood.brackets"
def d52 : List O := h2 742 60 254 4 402 749 565 ["tables", "look", "at", "bit"] "check_bracket" "thinwood.brackets"
def d53 : List O := h2 752 61 257 3 409 758 565 ["tables", "look", "at"] "closing" "thinwood.brackets"
def d54 : List O := h2 761 62 260 3 416 767 565 ["tables", "look", "at"] "opening" "thinwood.brackets"
def d55 : List O := h2 770 63 263 4 423 777 565 ["tables", "look", "at", "pairs"] "further_out" "thinwood.brackets"
def d56 : List O := h2 782 65 269 1 430 786 780 ["tables"] "node_count" "thinwood.trees"
def d57 : List O := h2 789 66 271 2 437 794 780 ["tables", "node"] "check_node" "thinwood.trees"
def d58 : List O := h2 797 67 274 3 444 803 780 ["tables", "look", "at"] "node_at" "thinwood.trees"
def d59 : List O := h2 806 68 278 3 451 812 780 ["tables", "look", "node"] "place_of" "thinwood.trees"
def d60 : List O := h2 815 69 281 3 458 821 780 ["tables", "look", "node"] "depth_of" "thinwood.trees"
def d61 : List O := h2 824 70 283 3 465 830 780 ["tables", "look", "node"] "elder_of" "thinwood.trees"
def d62 : List O := h2 833 71 285 3 472 840 780 ["tables", "look", "node", "behind"] "first_of" "thinwood.trees"
def d63 : List O := h2 843 72 290 3 479 850 780 ["tables", "look", "node", "behind"] "younger_of" "thinwood.trees"
def d64 : List O := h2 853 73 295 3 486 860 780 ["tables", "look", "node", "ahead"] "older_of" "thinwood.trees"
def d65 : List O := h2 863 74 300 3 493 870 780 ["tables", "look", "node", "at"] "beneath_of" "thinwood.trees"
def d66 : List O := h2 873 75 303 4 500 881 780 ["tables", "look", "node", "steps", "at"] "up_of" "thinwood.trees"
def d67 : List O := h2 884 76 308 4 507 892 780 ["tables", "look", "one", "other", "last"] "is_over" "thinwood.trees"
def d68 : List O := h2 895 77 312 4 514 906 780 ["tables", "look", "one", "other", "node", "first", "last", "depth"] "common_of" "thinwood.trees"
def d69 : List O := h2 913 80 320 1 521 919 909 ["depths", "ahead", "depth"] "check_depths" "thinwood.shapes"
def d70 : List O := h2 922 81 328 1 528 929 909 ["depths", "bits", "unclosed", "depth"] "brackets_of" "thinwood.shapes"
def d71 : List O := h2 932 82 337 1 535 936 909 ["depths"] "kept_tree" "thinwood.shapes"
def d72 : List O := h2 941 84 340 1 542 945 939 ["_law_found"] "_law_whole" "law_thinwood_k49_whole_tree_asked"
def d73 : List O := h1 85 948 342 1 549 939 "_law_great" "law_thinwood_k49_whole_tree_asked"
def d74 : List O := h2 954 86 345 1 554 965 939 ["_law_cells", "_law_depths_here", "_law_cell", "_law_number", "_law_many", "_law_up_here", "_law_k", "_law_deep"] "_law_depths" "law_thinwood_k49_whole_tree_asked"
def d75 : List O := h2 968 87 363 1 561 978 939 ["_law_depths_here", "_law_rows_here", "_law_last", "_law_k", "_law_deep", "_law_older", "_law_elder"] "_law_rows" "law_thinwood_k49_whole_tree_asked"
def d76 : List O := h2 981 88 380 3 568 988 939 ["_law_rows_here", "_law_node", "_law_steps", "_law_k"] "_law_up" "law_thinwood_k49_whole_tree_asked"
def d77 : List O := h2 991 89 385 4 575 998 939 ["_law_rows_here", "_law_way", "_law_one", "_law_other"] "_law_due" "law_thinwood_k49_whole_tree_asked"
def d78 : List O := h2 1001 90 395 5 582 1009 939 ["_law_tables", "_law_look_here", "_law_way", "_law_one", "_law_other"] "_law_asked" "law_thinwood_k49_whole_tree_asked"
def d79 : List O := h2 1012 91 413 2 589 1017 939 ["_law_found", "_law_due_here"] "_law_same" "law_thinwood_k49_whole_tree_asked"
def l19 : O := fun P => (.mk (.type "tuple") none (.seq #[(.str "_law_blocks" 1023), (.str "_law_seen" 1024), (.str "_law_look_here" 1025)] 0) #[])
def l20 : O := fun P => (.mk (.type "tuple") none (.seq #[(.str "_law_blocks" 1026), (.str "_law_seen" 1027)] 0) #[])
def l21 : O := fun P => (.mk .none none (.func (FuncData.mk "_law_look" "_law_look" (L2.defArgs (Tw.top 92)) (FuncBody.stmts (L2.defBody (Tw.top 92))) (L2.defScope (Tw.top 92)) 0 [] .none .none .none .none none .none .none 0)) #[])
def l22 : O := fun P => (.mk (.type "code") none (.fields #[(.str "_law_look" 1020), (.str "_law_look" 1021), (.str "/claim/cut.py" 1022), (.int 419 0), (.int 2 0), (.int 0 0), (.int 0 0), (.int 3 0), (.ref 596), (.bool .true), (.int 181 0), (.ref 597), .none, (.ref 598), (.ref 599), (.ref 600), (.int 1028 0), (.int 419 0), (.str "/claim/cut.py" 1029)]) #[])
def l23 : O := fun P => (.mk (.type "function") none (.func (FuncData.mk "_law_look" "_law_look" (L2.defArgs (Tw.top 92)) (FuncBody.stmts (L2.defBody (Tw.top 92))) (L2.defScope (Tw.top 92)) 3 [] .none .none .none (.str "law_thinwood_k49_whole_tree_asked" 939) none (.ref 601) .none 0)) #[])
def d81 : List O := h2 1031 93 427 3 603 1038 939 ["_law_seen", "_law_blocks", "_law_most", "_law_number"] "_law_few" "law_thinwood_k49_whole_tree_asked"
def d82 : List O := h2 1041 94 432 2 610 1056 939 ["_law_tree", "_law_cell", "_law_tables", "_law_blocks", "_law_rows_here", "_law_number", "_law_way", "_law_one", "_law_other", "_law_seen", "_law_look_here", "_law_found"] "_law_good" "law_thinwood_k49_whole_tree_asked"
def d83 : List O := h1 95 1059 445 1 617 939 "law" "law_thinwood_k49_whole_tree_asked"
def f0 : List O := ap [PySem.W.boot_o_0, PySem.W.boot_o_1, PySem.W.boot_o_2, s0, PySem.W.boot_o_4, PySem.W.boot_o_5, PySem.W.boot_o_6, PySem.W.boot_o_7, PySem.W.boot_o_8, PySem.W.boot_o_9, PySem.W.boot_o_10, l0, s1, l1, l2, l3, l4, l5, l0, l6, l7, l8, l0, l9, l10, l11, l12, l13] (ap d1 (ap d2 (ap d3 (ap d4 (ap d5 (ap d6 (ap d7 (ap d8 (d9)))))))))
def f1 : List O := ap d10 (ap d11 (ap d12 (ap d13 (ap d14 (ap d15 (ap d16 (ap d17 (ap d18 (d19)))))))))
def f2 : List O := ap d20 (ap d21 (ap d22 (ap d23 (ap d24 (ap d25 (ap d26 (ap d27 (ap d28 (d29)))))))))
def f3 : List O := ap d30 (ap d31 (ap d32 (ap d33 (ap d34 (ap d35 (ap d36 (ap d37 (ap d38 (d39)))))))))
def f4 : List O := ap d40 (ap d41 (ap [l0, l6, l14, l15, l16, l17, l18] (ap d43 (ap d44 (ap d45 (ap d46 (ap d47 (ap d48 (d49)))))))))
def f5 : List O := ap d50 (ap d51 (ap d52 (ap d53 (ap d54 (ap d55 (ap d56 (ap d57 (ap d58 (d59)))))))))
def f6 : List O := ap d60 (ap d61 (ap d62 (ap d63 (ap d64 (ap d65 (ap d66 (ap d67 (ap d68 (d69)))))))))
def f7 : List O := ap d70 (ap d71 (ap d72 (ap d73 (ap d74 (ap d75 (ap d76 (ap d77 (ap d78 (d79)))))))))
def f8 : List O := ap [l0, l6, l19, l20, l21, l22, l23] (ap d81 (ap d82 (d83)))
def ff : List O := ap f0 (ap f1 (ap f2 (ap f3 (ap f4 (ap f5 (ap f6 (ap f7 (f8))))))))
def s2 : O := gd (Z "__name__" 165 (.str "thinwood.errors" 187) :: tk gg 9) 10
def l24 : O := fun P => (.mk .none none (.fields #[(.int 2 0), (.int 0 0), (.ref 20)]) #[])
def l25 : O := fun P => (.mk (.type "type") none (.cls (.mk "WoodError" [(.type "ValueError")] [(.ref 24), (.type "ValueError"), (.type "Exception"), (.type "BaseException"), (.type "object")] 23 "WoodError" .true [] [] .false none .false)) #[(some (.ref 15)), none, (some (.str "WoodError" 189)), (some (.str "WoodError" 197)), (some (.builtin "ValueError.__new__")), (some (.bool .true))])
def S_tree_63 : Params → PySem.W.BT := fun P => bt 6 (mp (fun x => x P) (ov (tk ff 28) [(3, s2), (8, l24), (11, l25)]))
def s3 : O := gd (Z "__name__" 165 (.str "thinwood.errors" 187) :: tk gg 10) 11
def s4 : O := tb (tk tt 2)
def l26 : O := fun P => (.mk (.type "type") none (.cls (.mk "WoodError" [(.type "ValueError")] [(.ref 24), (.type "ValueError"), (.type "Exception"), (.type "BaseException"), (.type "object")] 23 "WoodError" .true [] [(.ref 37)] .false none .false)) #[(some (.ref 15)), none, (some (.str "WoodError" 189)), (some (.str "WoodError" 197)), (some (.builtin "ValueError.__new__")), (some (.bool .true))])
def S_tree_78 : Params → PySem.W.BT := fun P => bt 7 (mp (fun x => x P) (ov (tk ff 40) [(3, s3), (8, s4), (11, l26)]))
def s5 : O := gd (Z "__name__" 165 (.str "thinwood.errors" 187) :: tk gg 11) 12
def s6 : O := tb (tk tt 3)
def l27 : O := fun P => (.mk (.type "type") none (.cls (.mk "WoodError" [(.type "ValueError")] [(.ref 24), (.type "ValueError"), (.type "Exception"), (.type "BaseException"), (.type "object")] 23 "WoodError" .true [] [(.ref 37), (.ref 49)] .false none .false)) #[(some (.ref 15)), none, (some (.str "WoodError" 189)), (some (.str "WoodError" 197)), (some (.builtin "ValueError.__new__")), (some (.bool .true))])
def S_tree_93 : Params → PySem.W.BT := fun P => bt 7 (mp (fun x => x P) (ov (tk ff 52) [(3, s5), (8, s6), (11, l27)]))
def s7 : O := gd (Z "__name__" 165 (.str "thinwood.errors" 187) :: tk gg 12) 13
def s8 : O := tb (tk tt 4)
def l28 : O := fun P => (.mk (.type "type") none (.cls (.mk "WoodError" [(.type "ValueError")] [(.ref 24), (.type "ValueError"), (.type "Exception"), (.type "BaseException"), (.type "object")] 23 "WoodError" .true [] [(.ref 37), (.ref 49), (.ref 61)] .false none .false)) #[(some (.ref 15)), none, (some (.str "WoodError" 189)), (some (.str "WoodError" 197)), (some (.builtin "ValueError.__new__")), (some (.bool .true))])
def S_tree_108 : Params → PySem.W.BT := fun P => bt 8 (mp (fun x => x P) (ov (tk ff 64) [(3, s7), (8, s8), (11, l28)]))
def s9 : O := gd (Z "__name__" 165 (.str "thinwood.errors" 187) :: tk gg 13) 14
def s10 : O := tb (tk tt 5)
def l29 : O := fun P => (.mk (.type "type") none (.cls (.mk "WoodError" [(.type "ValueError")] [(.ref 24), (.type "ValueError"), (.type "Exception"), (.type "BaseException"), (.type "object")] 23 "WoodError" .true [] [(.ref 37), (.ref 49), (.ref 61), (.ref 73)] .false none .false)) #[(some (.ref 15)), none, (some (.str "WoodError" 189)), (some (.str "WoodError" 197)), (some (.builtin "ValueError.__new__")), (some (.bool .true))])
def S_tree_123 : Params → PySem.W.BT := fun P => bt 8 (mp (fun x => x P) (ov (tk ff 76) [(3, s9), (8, s10), (11, l29)]))
def s11 : O := gd (Z "__name__" 165 (.str "thinwood.blocks" 287) :: tk gg 21) 22
def s12 : O := tb (tk tt 11)
def S_tree_169 : Params → PySem.W.BT := fun P => bt 8 (mp (fun x => x P) (ov (tk ff 119) [(3, s11), (8, s12)]))
def s13 : O := gd (Z "__name__" 165 (.str "thinwood.heaps" 393) :: tk gg 34) 35
def s14 : O := tb (tk tt 23)
def S_tree_253 : Params → PySem.W.BT := fun P => bt 9 (mp (fun x => x P) (ov (tk ff 201) [(3, s13), (8, s14)]))
def s15 : O := gd (Z "__name__" 165 (.str "thinwood.brackets" 565) :: tk gg 45) 46
def s16 : O := tb (tk tt 34)
def S_tree_332 : Params → PySem.W.BT := fun P => bt 10 (mp (fun x => x P) (ov (tk ff 278) [(3, s15), (8, s16)]))
def s17 : O := gd (Z "__name__" 165 (.str "thinwood.brackets" 565) :: tk gg 57) 58
def s18 : O := tb (tk tt 46)
def S_tree_416 : Params → PySem.W.BT := fun P => bt 10 (mp (fun x => x P) (ov (tk ff 360) [(3, s17), (8, s18)]))
def s19 : O := gd (Z "__name__" 165 (.str "thinwood.trees" 780) :: tk gg 69) 70
def s20 : O := tb (tk tt 58)
def S_tree_502 : Params → PySem.W.BT := fun P => bt 10 (mp (fun x => x P) (ov (tk ff 444) [(3, s19), (8, s20)]))
def s21 : O := gd (Z "__name__" 165 (.str "thinwood.shapes" 909) :: tk gg 81) 82
def s22 : O := tb (tk tt 69)
def S_tree_581 : Params → PySem.W.BT := fun P => bt 11 (mp (fun x => x P) (ov (tk ff 521) [(3, s21), (8, s22)]))
def s23 : O := gd (Z "__name__" 165 (.str "law_thinwood_k49_whole_tree_asked" 939) :: tk gg 93) 94
def s24 : O := tb (tk tt 81)
def S_tree_665 : Params → PySem.W.BT := fun P => bt 11 (mp (fun x => x P) (ov (tk ff 603) [(3, s23), (8, s24)]))
def S_tree_686 : Params → PySem.W.BT := fun P => bt 11 (mp (fun x => x P) (ff))
def S_heap_687 : Params → Heap := fun P => Heap.mk (Array.mk (mp (fun x => x P) (ff))) (.mk [] [] [] 0 [] [] .false #[] [] 0 .false .false .false 0 [2000, 10, 10] .false 0 .true [] [] 0 .false)
def S_sts_49 : List Stmt := tk (List.drop 0 PySem.Challenge.pw_thinwood_k49_whole_tree_asked.main.body) 2
def S_sts_64 : List Stmt := tk (List.drop 2 PySem.Challenge.pw_thinwood_k49_whole_tree_asked.main.body) 1
def S_sts_79 : List Stmt := tk (List.drop 3 PySem.Challenge.pw_thinwood_k49_whole_tree_asked.main.body) 1
def S_sts_94 : List Stmt := tk (List.drop 4 PySem.Challenge.pw_thinwood_k49_whole_tree_asked.main.body) 1
def S_sts_109 : List Stmt := tk (List.drop 5 PySem.Challenge.pw_thinwood_k49_whole_tree_asked.main.body) 1
def S_sts_124 : List Stmt := tk (List.drop 6 PySem.Challenge.pw_thinwood_k49_whole_tree_asked.main.body) 9
def S_sts_170 : List Stmt := tk (List.drop 15 PySem.Challenge.pw_thinwood_k49_whole_tree_asked.main.body) 14
def S_sts_254 : List Stmt := tk (List.drop 29 PySem.Challenge.pw_thinwood_k49_whole_tree_asked.main.body) 13
def S_sts_333 : List Stmt := tk (List.drop 42 PySem.Challenge.pw_thinwood_k49_whole_tree_asked.main.body) 12
def S_sts_417 : List Stmt := tk (List.drop 54 PySem.Challenge.pw_thinwood_k49_whole_tree_asked.main.body) 13
def S_sts_503 : List Stmt := tk (List.drop 67 PySem.Challenge.pw_thinwood_k49_whole_tree_asked.main.body) 13
def S_sts_582 : List Stmt := tk (List.drop 80 PySem.Challenge.pw_thinwood_k49_whole_tree_asked.main.body) 13
def S_sts_666 : List Stmt := tk (List.drop 93 PySem.Challenge.pw_thinwood_k49_whole_tree_asked.main.body) 3
def S_view : Program := { PySem.Challenge.pw_thinwood_k49_whole_tree_asked with main := { PySem.Challenge.pw_thinwood_k49_whole_tree_asked.main with body := mp Tw.top [1, 2, 3, 4, 5, 6, 8, 9, 10, 11, 12, 13, 14, 15, 16, 17, 18, 19, 20, 22, 23, 24, 25, 26, 27, 28, 29, 30, 31, 33, 34, 35, 36, 37, 38, 39, 40, 42, 43, 44, 45, 46, 47, 48, 49, 50, 51, 52, 53, 54, 55, 56, 57, 58, 59, 60, 61, 62, 63, 65, 66, 67, 68, 69, 70, 71, 72, 73, 74, 75, 76, 77, 79, 80, 81, 82, 84, 85, 86, 87, 88, 89, 90, 91, 92, 93, 94, 95] } }
end
end Tp
theorem PySem.W.Fast.tw14598715356260435866 : True := trivial
noncomputable abbrev PySem.W.Fast.tw4267100883224697577 : PySem.Program := PySem.Challenge.pw_thinwood_k49_whole_tree_asked
theorem PySem.W.Fast.te4267100883224697577 : PySem.Challenge.pw_thinwood_k49_whole_tree_asked = PySem.W.Fast.tw4267100883224697577 := rfl
lay_quick Tp.g0 Tp.g1 Tp.g2 Tp.g3 Tp.g4 Tp.g5 Tp.g6 Tp.g7 Tp.g8 Tp.g9 Tp.gg Tp.s0 Tp.l0 Tp.s1 Tp.l1 Tp.l2 Tp.l3 Tp.l4 Tp.l5 Tp.l6 Tp.l7 Tp.l8 Tp.l9 Tp.l10 Tp.l11 Tp.l12 Tp.l13 Tp.d1 Tp.d2 Tp.d3 Tp.d4 Tp.d5 Tp.d6 Tp.d7 Tp.d8 Tp.d9 Tp.d10 Tp.d11 Tp.d12 Tp.d13
lay_quick Tp.d14 Tp.d15 Tp.d16 Tp.d17 Tp.d18 Tp.d19 Tp.d20 Tp.d21 Tp.d22 Tp.d23 Tp.d24 Tp.d25 Tp.d26 Tp.d27 Tp.d28 Tp.d29 Tp.d30 Tp.d31 Tp.d32 Tp.d33 Tp.d34 Tp.d35 Tp.d36 Tp.d37 Tp.d38 Tp.d39 Tp.d40 Tp.d41 Tp.l14 Tp.l15 Tp.l16 Tp.l17 Tp.l18 Tp.d43 Tp.d44 Tp.d45 Tp.d46 Tp.d47 Tp.d48 Tp.d49
lay_quick Tp.d50 Tp.d51 Tp.d52 Tp.d53 Tp.d54 Tp.d55 Tp.d56 Tp.d57 Tp.d58 Tp.d59 Tp.d60 Tp.d61 Tp.d62 Tp.d63 Tp.d64 Tp.d65 Tp.d66 Tp.d67 Tp.d68 Tp.d69 Tp.d70 Tp.d71 Tp.d72 Tp.d73 Tp.d74 Tp.d75 Tp.d76 Tp.d77 Tp.d78 Tp.d79 Tp.l19 Tp.l20 Tp.l21 Tp.l22 Tp.l23 Tp.d81 Tp.d82 Tp.d83 Tp.f0 Tp.f1
lay_quick Tp.f2 Tp.f3 Tp.f4 Tp.f5 Tp.f6 Tp.f7 Tp.f8 Tp.ff Tp.s2 Tp.l24 Tp.l25 Tp.S_tree_63 Tp.s3 Tp.s4 Tp.l26 Tp.S_tree_78 Tp.s5 Tp.s6 Tp.l27 Tp.S_tree_93 Tp.s7 Tp.s8 Tp.l28 Tp.S_tree_108 Tp.s9 Tp.s10 Tp.l29 Tp.S_tree_123 Tp.s11 Tp.s12 Tp.S_tree_169 Tp.s13 Tp.s14 Tp.S_tree_253 Tp.s15 Tp.s16 Tp.S_tree_332 Tp.s17 Tp.s18 Tp.S_tree_416
lay_quick Tp.s19 Tp.s20 Tp.S_tree_502 Tp.s21 Tp.s22 Tp.S_tree_581 Tp.s23 Tp.s24 Tp.S_tree_665 Tp.S_tree_686 Tp.S_heap_687 Tp.S_sts_49 Tp.S_sts_64 Tp.S_sts_79 Tp.S_sts_94 Tp.S_sts_109 Tp.S_sts_124 Tp.S_sts_170 Tp.S_sts_254 Tp.S_sts_333 Tp.S_sts_417 Tp.S_sts_503 Tp.S_sts_582 Tp.S_sts_666 Tp.S_view
namespace Tp
open PySem PySem.W.Fast
noncomputable abbrev _root_.PySem.W.Fast.tw16792399954289397845 : Params → PySem.W.BT := tw11432227658251013801
theorem _root_.PySem.W.Fast.te16792399954289397845 : S_tree_63 = _root_.PySem.W.Fast.tw16792399954289397845 := te11432227658251013801
noncomputable abbrev _root_.PySem.W.Fast.tw1479227866968256851 : Params → PySem.W.BT := tw16269510630359031336
theorem _root_.PySem.W.Fast.te1479227866968256851 : S_tree_78 = _root_.PySem.W.Fast.tw1479227866968256851 := te16269510630359031336
noncomputable abbrev _root_.PySem.W.Fast.tw1457861586729249113 : Params → PySem.W.BT := tw5549918322004914887
theorem _root_.PySem.W.Fast.te1457861586729249113 : S_tree_93 = _root_.PySem.W.Fast.tw1457861586729249113 := te5549918322004914887
noncomputable abbrev _root_.PySem.W.Fast.tw17321727278328676514 : Params → PySem.W.BT := tw10118726668083288838
theorem _root_.PySem.W.Fast.te17321727278328676514 : S_tree_108 = _root_.PySem.W.Fast.tw17321727278328676514 := te10118726668083288838
noncomputable abbrev _root_.PySem.W.Fast.tw13595192407634853014 : Params → PySem.W.BT := tw244363406318419850
theorem _root_.PySem.W.Fast.te13595192407634853014 : S_tree_123 = _root_.PySem.W.Fast.tw13595192407634853014 := te244363406318419850
noncomputable abbrev _root_.PySem.W.Fast.tw13380229225166499549 : Params → PySem.W.BT := tw9592908585162382514
theorem _root_.PySem.W.Fast.te13380229225166499549 : S_tree_169 = _root_.PySem.W.Fast.tw13380229225166499549 := te9592908585162382514
noncomputable abbrev _root_.PySem.W.Fast.tw10498193894804105592 : Params → PySem.W.BT := tw12609840961905558331
theorem _root_.PySem.W.Fast.te10498193894804105592 : S_tree_253 = _root_.PySem.W.Fast.tw10498193894804105592 := te12609840961905558331
noncomputable abbrev _root_.PySem.W.Fast.tw14286822529709753942 : Params → PySem.W.BT := tw15300941639508351864
theorem _root_.PySem.W.Fast.te14286822529709753942 : S_tree_332 = _root_.PySem.W.Fast.tw14286822529709753942 := te15300941639508351864
noncomputable abbrev _root_.PySem.W.Fast.tw10973410830414248372 : Params → PySem.W.BT := tw10967300236965459498
theorem _root_.PySem.W.Fast.te10973410830414248372 : S_tree_416 = _root_.PySem.W.Fast.tw10973410830414248372 := te10967300236965459498
noncomputable abbrev _root_.PySem.W.Fast.tw12004055649522148896 : Params → PySem.W.BT := tw6968764055537111356
theorem _root_.PySem.W.Fast.te12004055649522148896 : S_tree_502 = _root_.PySem.W.Fast.tw12004055649522148896 := te6968764055537111356
noncomputable abbrev _root_.PySem.W.Fast.tw12943268068865587144 : Params → PySem.W.BT := tw17081649558464776691
theorem _root_.PySem.W.Fast.te12943268068865587144 : S_tree_581 = _root_.PySem.W.Fast.tw12943268068865587144 := te17081649558464776691
noncomputable abbrev _root_.PySem.W.Fast.tw7950334616355564010 : Params → PySem.W.BT := tw6573469044012858366
theorem _root_.PySem.W.Fast.te7950334616355564010 : S_tree_665 = _root_.PySem.W.Fast.tw7950334616355564010 := te6573469044012858366
noncomputable abbrev _root_.PySem.W.Fast.tw7441765985648430778 : Params → PySem.W.BT := tw2987578796947483284
theorem _root_.PySem.W.Fast.te7441765985648430778 : S_tree_686 = _root_.PySem.W.Fast.tw7441765985648430778 := te2987578796947483284
noncomputable abbrev _root_.PySem.W.Fast.tw14643231763324144326 : Params → Heap := tw11691994585893472103
theorem _root_.PySem.W.Fast.te14643231763324144326 : S_heap_687 = _root_.PySem.W.Fast.tw14643231763324144326 := te11691994585893472103
noncomputable abbrev _root_.PySem.W.Fast.tw17931870317719449875 : List Stmt := tw666750322614274432
theorem _root_.PySem.W.Fast.te17931870317719449875 : S_sts_49 = _root_.PySem.W.Fast.tw17931870317719449875 := te666750322614274432
noncomputable abbrev _root_.PySem.W.Fast.tw14827493123077291226 : List Stmt := tw5768192320520425421
theorem _root_.PySem.W.Fast.te14827493123077291226 : S_sts_64 = _root_.PySem.W.Fast.tw14827493123077291226 := te5768192320520425421
noncomputable abbrev _root_.PySem.W.Fast.tw6131464309301048145 : List Stmt := tw16161987442105222805
theorem _root_.PySem.W.Fast.te6131464309301048145 : S_sts_79 = _root_.PySem.W.Fast.tw6131464309301048145 := te16161987442105222805
noncomputable abbrev _root_.PySem.W.Fast.tw4143158018320811211 : List Stmt := tw11682420065776883047
theorem _root_.PySem.W.Fast.te4143158018320811211 : S_sts_94 = _root_.PySem.W.Fast.tw4143158018320811211 := te11682420065776883047
noncomputable abbrev _root_.PySem.W.Fast.tw9270205887811458807 : List Stmt := tw5728941507444464575
theorem _root_.PySem.W.Fast.te9270205887811458807 : S_sts_109 = _root_.PySem.W.Fast.tw9270205887811458807 := te5728941507444464575
noncomputable abbrev _root_.PySem.W.Fast.tw6454934502315916800 : List Stmt := tw3506674074365841151
theorem _root_.PySem.W.Fast.te6454934502315916800 : S_sts_124 = _root_.PySem.W.Fast.tw6454934502315916800 := te3506674074365841151
noncomputable abbrev _root_.PySem.W.Fast.tw10591307425382760697 : List Stmt := tw4017861640033047332
theorem _root_.PySem.W.Fast.te10591307425382760697 : S_sts_170 = _root_.PySem.W.Fast.tw10591307425382760697 := te4017861640033047332
noncomputable abbrev _root_.PySem.W.Fast.tw2203156194887570940 : List Stmt := tw7003508138741329178
theorem _root_.PySem.W.Fast.te2203156194887570940 : S_sts_254 = _root_.PySem.W.Fast.tw2203156194887570940 := te7003508138741329178
noncomputable abbrev _root_.PySem.W.Fast.tw2348163337706158306 : List Stmt := tw10511127680529310889
theorem _root_.PySem.W.Fast.te2348163337706158306 : S_sts_333 = _root_.PySem.W.Fast.tw2348163337706158306 := te10511127680529310889
noncomputable abbrev _root_.PySem.W.Fast.tw12093326473274454174 : List Stmt := tw4741304158275059305
theorem _root_.PySem.W.Fast.te12093326473274454174 : S_sts_417 = _root_.PySem.W.Fast.tw12093326473274454174 := te4741304158275059305
noncomputable abbrev _root_.PySem.W.Fast.tw12771940549288480341 : List Stmt := tw4258733816319250809
theorem _root_.PySem.W.Fast.te12771940549288480341 : S_sts_503 = _root_.PySem.W.Fast.tw12771940549288480341 := te4258733816319250809
noncomputable abbrev _root_.PySem.W.Fast.tw16603976409646482991 : List Stmt := tw12002930488127293530
theorem _root_.PySem.W.Fast.te16603976409646482991 : S_sts_582 = _root_.PySem.W.Fast.tw16603976409646482991 := te12002930488127293530
noncomputable abbrev _root_.PySem.W.Fast.tw17608092552755568755 : List Stmt := tw13591212206771556512
theorem _root_.PySem.W.Fast.te17608092552755568755 : S_sts_666 = _root_.PySem.W.Fast.tw17608092552755568755 := te13591212206771556512
noncomputable abbrev _root_.PySem.W.Fast.tw1475899128987153583 : Program := tw11325136443342628617
theorem _root_.PySem.W.Fast.te1475899128987153583 : S_view = _root_.PySem.W.Fast.tw1475899128987153583 := te11325136443342628617
theorem _root_.PySem.W.Fast.te10305835089812064810 : True := trivial
end Tp
open PySem PySem.W PyProof.Rows
set_option maxRecDepth 100000 in
set_option maxHeartbeats 0 in
theorem PySem.Challenge.cw_thinwood_k49_whole_tree_asked_holds : PySem.Challenge.rw_thinwood_k49_whole_tree_asked.Holds := by
 w_on; o_law; k_head; (case hw => w_witness2)
 k_fill
 refine L2.Cv (l := PySem.Challenge.rw_thinwood_k49_whole_tree_asked) (n := 63) (k := 14) (x := "_law_script") rfl (by decide) rfl ⟨rfl, by decide, by decide⟩ (fun w h Y => PySem.W.km_in_of Y) ?F
 case F =>
  intro w mg mb mean fa h KX TT hmg
  refine' Tw.El KX TT hmg ?d0 ?d1 ?d2 ?d3 ?d4 ?d5 ?d6 ?d7 ?d8 ?d9 ?d10 ?d11 ?d12 ?d13 ?d14 ?d15 ?d16 ?d17 ?d18 ?d19 ?d20 ?d21 ?d22 ?d23 ?d24 ?d25 ?d26 ?d27 ?d28 ?d29 ?d30 ?d31 ?d32 ?d33 ?d34 ?d35 ?a36 ?l36 ?c36 ?k36 ?tl_heap_look ?tp_heap_look ?tr_heap_look ?d37 ?d38 ?d39 ?d40 ?d41 ?d42 ?d43 ?d44 ?d45 ?d46 ?d47 ?d48 ?d49 ?d50 ?d51 ?d52 ?d53 ?d54 ?d55 ?d56 ?d57 ?d58 ?d59 ?d60 ?d61 ?d62 ?d63 ?d64 ?d65 ?d66 ?d67 ?d68 ?d69 ?d70 ?d71 ?d72 ?d73 ?a74 ?l74 ?c74 ?k74 ?tl_law_look ?tp_law_look ?tr_law_look ?d75 ?d76 ?d77 ?z_bool ?z_enumerate ?z_int ?z_isinstance ?z_len ?z_list ?z_max ?z_min ?z_range ?z_reversed ?z_set ?z_sum ?z_tuple ?z_zip ?g_BLOCK_BITS ?g_MOST_BITS ?g_MOST_NODES ?g_MOST_NUMBERS ?q_NoNode ?ex_NoNode ?ed_NoNode ?ega_NoNode ?eng_NoNode ?ecl_NoNode ?egt_NoNode ?etk_NoNode ?emo_NoNode ?emb_NoNode ?i_NoNode_NoNode ?i_NoNode_ValueError ?nt ?nn_heap_look_law_look
  (case d0 | d1 | d2 | d3 | d4 | d5 | d6 | d7 | d8 | d9 | d10 | d11 | d12 | d13 | d14 | d15 | d16 | d17 | d18 | d19 | d20 | d21 | d22 | d23 | d24 | d25 | d26 | d27 | d28 | d29 | d30 | d31 | d32 | d33 | d34 | d35 | d37 | d38 | d39 | d40 | d41 | d42 | d43 | d44 | d45 | d46 | d47 | d48 | d49 | d50 | d51 | d52 | d53 | d54 | d55 | d56 | d57 | d58 | d59 | d60 | d61 | d62 | d63 | d64 | d65 | d66 | d67 | d68 | d69 | d70 | d71 | d72 | d73 | d75 | d76 | d77 => exact ⟨by k_is, L2.wZ (by k_is) (by k_is) (by k_is)⟩); (case a36 => k_is); (case l36 => k_is); (case c36 => k_is); (case k36 => k_is); (case tl_heap_look => k_is); (case tp_heap_look => rfl); (case tr_heap_look => exact ⟨_, rfl⟩); (case a74 => k_is); (case l74 => k_is); (case c74 => k_is); (case k74 => k_is); (case tl_law_look => k_is); (case tp_law_look => rfl); (case tr_law_look => exact ⟨_, rfl⟩); (case z_bool => k_is); (case z_enumerate => k_is); (case z_int => k_is); (case z_isinstance => k_is); (case z_len => k_is); (case z_list => k_is); (case z_max => k_is); (case z_min => k_is); (case z_range => k_is); (case z_reversed => k_is); (case z_set => k_is); (case z_sum => k_is); (case z_tuple => k_is); (case z_zip => k_is); (case g_BLOCK_BITS => k_is); (case g_MOST_BITS => k_is); (case g_MOST_NODES => k_is); (case g_MOST_NUMBERS => k_is); (case q_NoNode => k_is); (case ex_NoNode => k_exc); (case ed_NoNode => k_is); (case ega_NoNode => k_is); (case eng_NoNode => k_is); (case ecl_NoNode => k_is); (case egt_NoNode => k_is); (case etk_NoNode => k_is); (case emo_NoNode => k_is); (case emb_NoNode => k_is); (case i_NoNode_NoNode => kit_is); (case i_NoNode_ValueError => kit_is); (case nt => kernel_rfl); (case nn_heap_look_law_look => decide)
