import PyProof.Rows.All
import Wide.All
import OpenK.AllK
import Wide.FinOn
import Lean
import PyProof.EqAt
import PyProof.EqKinds
import PyProof.TupleCall
import PySem.Challenge.RW_thinwood_k86_trees_read
-- CHANGE: your row's module here, as the last of these rows
set_option Elab.async false
set_option linter.all false
set_option maxRecDepth 100000
/-! THE HAND LAYER, for ints, bools, texts, own classes, LISTS and tuples (index, slices, in, append, pop ..), calls, loops. Paste it whole ahead of your own text; what your proof does not reach may be deleted. -/
namespace L2
open PySem PySem.Spec PyProof.Rows

/-- a key: an int or a str -/
abbrev Key := Sum Int Str
def keyIs : Key → Value → Bool
  | .inl k, v => Value.isInt k v
  | .inr x, v => Value.isStrOf x v
def keyH (w : World) : Key → Int
  | .inl k => hashInt k
  | .inr x => hashStr w x
theorem keyIs_shape : ∀ {k : Key} {v : Value}, keyIs k v = true → (∃ i t, k = Sum.inl i ∧ v = Value.int i t) ∨ (∃ x t, k = Sum.inr x ∧ v = Value.str x t)
  | .inl i, v, h => by
    obtain ⟨t, e⟩ := Value.isInt_shape (k := i) (v := v) h
    exact .inl ⟨i, t, rfl, e⟩
  | .inr x, v, h => by
    obtain ⟨t, e⟩ := Value.isStrOf_shape (x := x) (v := v) h
    exact .inr ⟨x, t, rfl, e⟩
theorem key_ll (a b : Int) : decide ((Sum.inl a : Key) = Sum.inl b) = (a == b) := by
  by_cases e : a = b
  · subst e; simp
  · have h : ¬ (Sum.inl a : Key) = Sum.inl b := fun q => e (Sum.inl.inj q)
    rw [decide_eq_false h]
    exact (beq_eq_false_iff_ne.mpr e).symm
theorem key_rr (a b : Str) : decide ((Sum.inr a : Key) = Sum.inr b) = decide (a = b) := by
  by_cases e : a = b
  · subst e; simp
  · have h : ¬ (Sum.inr a : Key) = Sum.inr b := fun q => e (Sum.inr.inj q)
    rw [decide_eq_false h, decide_eq_false e]
theorem key_lr (a : Int) (b : Str) : decide ((Sum.inl a : Key) = Sum.inr b) = false := decide_eq_false (fun q => nomatch q)
theorem key_rl (a : Str) (b : Int) : decide ((Sum.inr a : Key) = Sum.inl b) = false := decide_eq_false (fun q => nomatch q)

def mixKind (prog : Program) (w : World) : PySem.KeyKind prog w Key where
  is := keyIs
  hash := keyH w
  inj := fun v a b ha hb => by
    rcases keyIs_shape ha with ⟨i, t, rfl, rfl⟩ | ⟨x, t, rfl, rfl⟩
    · rcases keyIs_shape hb with ⟨j, u, rfl, e⟩ | ⟨y, u, rfl, e⟩
      · injection e with e1 _; rw [e1]
      · exact nomatch e
    · rcases keyIs_shape hb with ⟨j, u, rfl, e⟩ | ⟨y, u, rfl, e⟩
      · exact nomatch e
      · injection e with e1 _; rw [e1]
  byValue := fun k v h => by
    rcases keyIs_shape h with ⟨i, t, rfl, rfl⟩ | ⟨x, t, rfl, rfl⟩ <;> rfl
  pyHash := fun hv h => by
    rcases keyIs_shape hv with ⟨i, t, rfl, rfl⟩ | ⟨x, t, rfl, rfl⟩
    · exact wpAny_pyHash_int h
    · exact wpAny_pyHash_str h
  eqBool := fun hu hv h => by
    rcases keyIs_shape hu with ⟨i, t, rfl, rfl⟩ | ⟨x, t, rfl, rfl⟩
    · rcases keyIs_shape hv with ⟨j, u, rfl, rfl⟩ | ⟨y, u, rfl, rfl⟩
      · rw [key_ll] at h; exact wpAny_eqBool_int h
      · rw [key_lr] at h; exact SeqAt.EqAt.int_str i t y u _ _ _ _ h
    · rcases keyIs_shape hv with ⟨j, u, rfl, rfl⟩ | ⟨y, u, rfl, rfl⟩
      · rw [key_rl] at h; exact SeqAt.EqAt.str_int x t j u _ _ _ _ h
      · rw [key_rr] at h; exact wpAny_eqBool_str h
  «strs» := fun k x t v h => by
    rcases keyIs_shape h with ⟨i, u, rfl, e⟩ | ⟨y, u, rfl, e⟩
    · exact nomatch e
    · injection e with e1 _
      subst e1
      cases v <;> rfl

end L2

namespace L2
open PySem PySem.Spec PyProof.Rows

/-- a value, without the heap -/
inductive V where
  | non | bl (b : Bool) | int (i : Int) | str (x : Str) | byt (b : Array UInt8) | flt (b : UInt64) | ref (a : Addr) | ty (n : String)
  deriving DecidableEq

def RelV : V → Value → Prop
  | .non, u => u = Value.none
  | .bl b, u => u = Value.bool b
  | .int i, u => ∃ t, u = Value.int i t
  | .str x, u => ∃ t, u = Value.str x t
  | .byt b, u => ∃ t, u = Value.bytes b t
  | .flt b, u => ∃ t, u = Value.float b t
  | .ref a, u => u = Value.ref a
  | .ty n, u => u = Value.type n

abbrev Vals : List V → List Value → Prop := Paired RelV
theorem Vals.length {xs : List V} {us : List Value} (r : Vals xs us) : xs.length = us.length := Paired.length r
theorem Vals.get : ∀ {xs : List V} {us : List Value} {i : Nat} {x : V}, Vals xs us → xs[i]? = some x → ∃ u, us[i]? = some u ∧ RelV x u
  | _, _, _, _, .nil, e => by simp at e
  | _, _, 0, _, .cons r _, e => by simp at e; subst e; exact ⟨_, rfl, r⟩
  | _, _, i + 1, x, .cons _ t, e => by
    obtain ⟨u, h1, h2⟩ := Vals.get (i := i) (x := x) t (by simpa using e)
    exact ⟨u, by simpa using h1, h2⟩
theorem Vals.set {x : V} {u : Value} (r : RelV x u) : ∀ {xs : List V} {us : List Value} (i : Nat), Vals xs us → Vals (xs.set i x) (us.set i u)
  | _, _, _, .nil => .nil
  | _, _, 0, .cons _ t => .cons r t
  | _, _, i + 1, .cons q t => .cons q (Vals.set r i t)
theorem Vals.append : ∀ {xs ys : List V} {us ws : List Value}, Vals xs us → Vals ys ws → Vals (xs ++ ys) (us ++ ws)
  | _, _, _, _, .nil, s => s
  | _, _, _, _, .cons r t, s => .cons r (Vals.append t s)
theorem Vals.take : ∀ {xs : List V} {us : List Value} (n : Nat), Vals xs us → Vals (xs.take n) (us.take n)
  | _, _, 0, _ => .nil
  | _, _, _ + 1, .nil => .nil
  | _, _, n + 1, .cons r t => .cons r (Vals.take n t)
theorem Vals.drop : ∀ {xs : List V} {us : List Value} (n : Nat), Vals xs us → Vals (xs.drop n) (us.drop n)
  | _, _, 0, r => r
  | _, _, _ + 1, .nil => .nil
  | _, _, n + 1, .cons _ t => Vals.drop n t
def RelO : Option V → Option Value → Prop
  | some v, some u => RelV v u
  | none, none => True
  | _, _ => False
def KV {κ : Type} : List (κ × V) → List (κ × Value) → Prop := Paired fun (p : κ × V) (q : κ × Value) => p.1 = q.1 ∧ RelV p.2 q.2

/-- a key of a dict (00_mix): an int or a text -/
def kV : Key → V
  | .inl i => .int i
  | .inr x => .str x

/-- what stands at a tracked address -/
inductive HO where
  /-- a list -/
  | lst (xs : List V)
  /-- a tuple (never changes) -/
  | tup (xs : List V)
  /-- a dict whose keys are ints and texts; one whose keys are tuples of ints and texts (the empty one is both) -/
  | dK (kvs : List (Key × V)) | dT (kvs : List (List Key × V))
  /-- a set of ints: its members, its size -/
  | set (S : Int → Bool) (n : Nat)
  /-- an instance of the class at C, its dict at dx, its attributes -/
  | ins (C dx : Addr) (fs : List (Str × V))
  /-- the dict of the instance at x -/
  | own (x : Addr)
  /-- the dict of an exception -/
  | xd (fs : List (Str × V))
  /-- a bound method, f of x -/
  | met (f x : Addr)
  /-- a range object lo, lo + 1, .. below hi -/
  | rng (lo hi : Int)
  /-- a thing that is known to the object (the script; a dict while a loop walks it): read, never written while it is so -/
  | frz (o : Obj) (u : HO)
  /-- a code object's table -/
  | tbl (ps : Array Value)
  /-- any other thing, by what is true of its one object (a def of one's own: SetO a S n := HO.ext fun h => ..) -/
  | ext (φ : Heap → Prop)

abbrev Hp := Addr → Option HO
def upd (H : Hp) (a : Addr) (o : HO) : Hp := fun b => if b = a then some o else H b
theorem upd_same {H : Hp} {a : Addr} {o : HO} : upd H a o a = some o := by unfold upd; rw [if_pos rfl]
theorem upd_ne {H : Hp} {a b : Addr} {o : HO} (h : b ≠ a) : upd H a o b = H b := by unfold upd; rw [if_neg h]
theorem upd_upd {H : Hp} {a : Addr} {o u : HO} : upd (upd H a o) a u = upd H a u := by
  funext b; unfold upd; split <;> rfl
theorem ne_of_none {H : Hp} {a b : Addr} {o : HO} (h : H a = some o) (h' : H b = none) : a ≠ b := by
  intro e; subst e; rw [h] at h'; cases h'

section
variable (P : Program) (w : World)
def ObjOk (H : Hp) (h : Heap) (a : Addr) : HO → Prop
  | .lst xs => xs.length ≤ sizeLine ∧ ∃ (its : List Value) (n : Nat), Vals xs its ∧ h.get? a = some { cls := .type "list", data := .seq its.toArray n }
  | .tup xs => xs.length ≤ sizeLine ∧ ∃ its : List Value, Vals xs its ∧ IsTup h a its.toArray
  | .dK kvs => kvs.length ≤ sizeLine ∧ (a == sysModules) = false ∧ ∃ vs, KV kvs vs ∧ h.DictOf (mixKind P w) a vs
  | .dT kvs => kvs.length ≤ sizeLine ∧ (a == sysModules) = false ∧ ∃ xs : List (List Key × Addr × Value),
      Paired (fun (p : List Key × V) (q : List Key × Addr × Value) => p.1 = q.1 ∧ H q.2.1 = some (.tup (p.1.map kV)) ∧ RelV p.2 q.2.2) kvs xs ∧
      ∃ o es ep, h.get? a = some o ∧ o.ExactDict ∧ o.data = .dict es ep ∧ es.toList = xs.map (entryOfKey (tupleKind (mixKind P w))) ∧ (xs.map (·.1)).Nodup
  | .set S n => h.SetOf (intKind P w) a S n
  | .ins C dx fs => H dx = some (.own a) ∧ fs.length ≤ 1000 ∧ dx ≠ a ∧ h.get? a = some (PySem.W.instObj C dx) ∧
      ∃ mA, h.Ns1 dx mA ∧ (∀ f, RelO (fs.lookup f) (mA f)) ∧ PySem.Within mA (fs.map (·.1))
  | .own _ => ∃ o, h.get? a = some o
  | .xd fs => ∃ mA, h.Ns1 a mA ∧ ∀ f, RelO (fs.lookup f) (mA f)
  | .rng lo hi => ∃ t u v, h.get? a = some { cls := .type "range", data := .fields #[.int lo t, .int hi u, .int 1 v] }
  | .frz o u => h.get? a = some o ∧ ObjOk H h a u
  | .tbl ps => h.get? a = some { cls := .none, data := .fields ps }
  | .met f x => h.get? a = some (PySem.W.methodObj (.ref f) (.ref x))
  | .ext φ => φ h ∧ (∃ o, h.get? a = some o) ∧ ∀ h1 h2 : Heap, φ h1 → (∀ o, h1.get? a = some o → h2.get? a = some o) → φ h2
/-- the abstract heap is held -/
def HOk (H : Hp) (h : Heap) : Prop := ∀ a o, H a = some o → ObjOk P w H h a o
end

section
variable {P : Program} {w : World} {H H' : Hp} {h h' : Heap} {a : Addr} {o : HO}
theorem ObjOk.lt (x : ObjOk P w H h a o) : a < h.objs.size := by
  cases o with
  | lst xs => obtain ⟨_, _, _, _, e⟩ := x; exact Heap.lt_size e
  | tup xs => obtain ⟨_, _, _, p⟩ := x; exact p.lt
  | dK kvs => obtain ⟨_, _, _, _, o, _, _, e, _⟩ := x; exact Heap.lt_size e
  | dT kvs => obtain ⟨_, _, _, _, o, _, _, e, _⟩ := x; exact Heap.lt_size e
  | set S n => obtain ⟨o, _, _, _, e, _⟩ := x; exact Heap.lt_size e
  | ins C dx fs => obtain ⟨_, _, _, e, _⟩ := x; exact Heap.lt_size e
  | own y => obtain ⟨_, e⟩ := x; exact Heap.lt_size e
  | xd fs => obtain ⟨_, ⟨_, _, _, e, _⟩, _⟩ := x; exact Heap.lt_size e
  | rng lo hi => obtain ⟨_, _, _, e⟩ := x; exact Heap.lt_size e
  | frz ob u => obtain ⟨e, _⟩ := x; exact Heap.lt_size e
  | tbl ps => exact Heap.lt_size (show h.get? a = some _ from x)
  | met f y => exact Heap.lt_size (show h.get? a = some _ from x)
  | ext φ => obtain ⟨_, ⟨_, e⟩, _⟩ := x; exact Heap.lt_size e
theorem Paired.mapP {α β : Type} {F G : α → β → Prop} : ∀ {l₁ : List α} {l₂ : List β}, Paired F l₁ l₂ → (∀ a b, F a b → G a b) → Paired G l₁ l₂
  | _, _, .nil, _ => .nil
  | _, _, .cons r t, f => .cons (f _ _ r) (Paired.mapP t f)
/-- what an object's description leans on: its own object, its own dict, the tuples -/
theorem ObjOk.stay (x : ObjOk P w H h a o) (k : ∀ b u, (b = a ∨ H b = some (.own a)) → h.get? b = some u → h'.get? b = some u)
    (ho : ∀ b, H b = some (.own a) → H' b = some (.own a)) (ht : ∀ b xs, H b = some (.tup xs) → H' b = some (.tup xs)) : ObjOk P w H' h' a o := by
  induction o with
  | lst xs => obtain ⟨z, its, n, r, e⟩ := x; exact ⟨z, its, n, r, k _ _ (.inl rfl) e⟩
  | tup xs => obtain ⟨z, its, r, ob, e, c⟩ := x; exact ⟨z, its, r, ob, k _ _ (.inl rfl) e, c⟩
  | dK kvs => obtain ⟨z, y, vs, r, ob, es, ep, e, c⟩ := x; exact ⟨z, y, vs, r, ob, es, ep, k _ _ (.inl rfl) e, c⟩
  | dT kvs =>
    obtain ⟨z, y, xs, r, ob, es, ep, e, c⟩ := x
    exact ⟨z, y, xs, Paired.mapP r fun p q z => ⟨z.1, ht _ _ z.2.1, z.2.2⟩, ob, es, ep, k _ _ (.inl rfl) e, c⟩
  | set S n => obtain ⟨ob, es, ep, t, e, c⟩ := x; exact ⟨ob, es, ep, t, k _ _ (.inl rfl) e, c⟩
  | ins C dx fs =>
    obtain ⟨d, z, ne, e, mA, ⟨od, es, ep, e2, c⟩, r⟩ := x
    exact ⟨ho _ d, z, ne, k _ _ (.inl rfl) e, mA, ⟨od, es, ep, k _ _ (.inr d) e2, c⟩, r⟩
  | own y => obtain ⟨ob, e⟩ := x; exact ⟨ob, k _ _ (.inl rfl) e⟩
  | xd fs => obtain ⟨mA, ⟨od, es, ep, e, c⟩, r⟩ := x; exact ⟨mA, ⟨od, es, ep, k _ _ (.inl rfl) e, c⟩, r⟩
  | rng lo hi => obtain ⟨t, u, v, e⟩ := x; exact ⟨t, u, v, k _ _ (.inl rfl) e⟩
  | frz ob u ih => obtain ⟨e, q⟩ := x; exact ⟨k _ _ (.inl rfl) e, ih q⟩
  | tbl ps =>
    have e : h.get? a = some { cls := .none, data := .fields ps } := x
    show h'.get? a = some { cls := .none, data := .fields ps }
    exact k a _ (.inl rfl) e
  | met f y =>
    have e : h.get? a = some (PySem.W.methodObj (.ref f) (.ref y)) := x
    show h'.get? a = some (PySem.W.methodObj (.ref f) (.ref y))
    exact k a _ (.inl rfl) e
  | ext φ => obtain ⟨p, ⟨o, e⟩, st⟩ := x; exact ⟨st _ _ p fun o q => k _ _ (.inl rfl) q, ⟨o, k _ _ (.inl rfl) e⟩, st⟩
theorem HOk.lt (x : HOk P w H h) (e : H a = some o) : a < h.objs.size := (x a o e).lt
theorem HOk.fresh (x : HOk P w H h) (e : h.objs.size ≤ a) : H a = none := by
  cases q : H a with
  | none => rfl
  | some u => exact absurd (Nat.lt_of_lt_of_le (x.lt q) e) (Nat.lt_irrefl _)
/-- every object of the heap is kept -/
theorem HOk.kept (x : HOk P w H h) (k : ∀ b u, h.get? b = some u → h'.get? b = some u) : HOk P w H h' := fun a o e =>
  (x a o e).stay (fun b u _ q => k b u q) (fun _ q => q) fun _ _ q => q
/-- a new object is laid and tracked -/
theorem HOk.laid (x : HOk P w H h) (k : ∀ b u, h.get? b = some u → h'.get? b = some u) (hp : h.objs.size ≤ a) (new : ObjOk P w (upd H a o) h' a o) : HOk P w (upd H a o) h' := fun b u e => by
  have hn := x.fresh hp
  by_cases hb : b = a
  · subst hb; rw [upd_same] at e; cases e; exact new
  · rw [upd_ne hb] at e
    exact (x b u e).stay (fun c v _ q => k c v q) (fun c q => by rw [upd_ne (ne_of_none q hn)]; exact q) fun c xs q => by rw [upd_ne (ne_of_none q hn)]; exact q
end

/-- what may be read as u: it is u, or a known u -/
def Rd (H : Hp) (a : Addr) (u : HO) : Prop := H a = some u ∨ ∃ o, H a = some (.frz o u)
theorem Rd.ok {P : Program} {w : World} {H : Hp} {h : Heap} {a : Addr} {u : HO} (r : Rd H a u) (x : HOk P w H h) : ObjOk P w H h a u := by
  rcases r with r | ⟨o, r⟩
  · exact x a u r
  · obtain ⟨_, q⟩ := x a _ r
    exact q
/-- what may be written -/
def Mut : Option HO → Prop
  | some (.lst _) => True
  | some (.dK _) => True
  | some (.dT _) => True
  | some (.set _ _) => True
  | some (.ins _ _ _) => True
  | some (.ext _) => True
  | _ => False
section
variable {P : Program} {w : World} {H : Hp} {h h' : Heap} {x e : Addr} {o' : HO}
/-- the object at e is changed: x itself, or the dict of the instance x -/
theorem HOk.write (ok : HOk P w H h) (mu : Mut (H x)) (he : e = x ∨ H e = some (.own x)) (k : ∀ b u, b ≠ e → h.get? b = some u → h'.get? b = some u) (heo : ∃ u, h'.get? e = some u)
    (new : ObjOk P w (upd H x o') h' x o') : HOk P w (upd H x o') h' := fun b u q => by
  have nown : ∀ c y, H c = some (.own y) → c ≠ x := fun c y r z => by subst z; rw [r] at mu; exact mu
  have ntup : ∀ c xs, H c = some (.tup xs) → c ≠ x := fun c xs r z => by subst z; rw [r] at mu; exact mu
  by_cases hb : b = x
  · subst hb; rw [upd_same] at q; cases q; exact new
  · rw [upd_ne hb] at q
    by_cases hbe : b = e
    · have q' : H b = some (.own x) := by
        rcases he with z | z
        · exact absurd (hbe.trans z) hb
        · rw [hbe]; exact z
      rw [q] at q'; cases q'
      obtain ⟨v, hv⟩ := heo
      exact ⟨v, by rw [hbe]; exact hv⟩
    · refine (ok b u q).stay (fun c v hc r => k c v ?_ r) (fun c r => by rw [upd_ne (nown c b r)]; exact r) fun c xs r => by rw [upd_ne (ntup c xs r)]; exact r
      rcases hc with rfl | hc
      · exact hbe
      · rintro rfl
        rcases he with z | z
        · exact nown c b hc z
        · rw [hc] at z; cases z; exact hb rfl
end

/-! ### kept unless tracked; of the frames at fs (the callers') the slots may change (an exception that passes writes there); of the records at ex (iterators) nothing is said -/
structure Un (fs ex : List Addr) (H H' : Hp) (h h' : Heap) : Prop where
  keep : ∀ b o, h.get? b = some o → H b = none → b ∉ fs → b ∉ ex → h'.get? b = some o
  slot : ∀ b o, h.get? b = some o → H b = none → b ∈ fs → b ∉ ex → ∃ sl, h'.get? b = some { o with slots := sl }
  free : ∀ b o, h.get? b = some o → H b = none → b ∉ ex → H' b = none
  there : ∀ b o, h.get? b = some o → b ∉ ex → ∃ o', h'.get? b = some o'
  tups : ∀ b xs, H b = some (.tup xs) → H' b = some (.tup xs)
  frzs : ∀ b o u, H b = some (.frz o u) → H' b = some (.frz o u)
  tbls : ∀ b ps, H b = some (.tbl ps) → ∃ more, H' b = some (.tbl (ps ++ more))
section
variable {fs fs' ex ex' : List Addr} {H H1 H2 : Hp} {h h1 h2 h' : Heap} {a x e : Addr} {o : HO}
theorem Un.any (u : Un fs ex H H1 h h1) {b : Addr} {ob : Obj} (q : h.get? b = some ob) (n : H b = none) (hx : b ∉ ex) : ∃ sl, h1.get? b = some { ob with slots := sl } := by
  by_cases hb : b ∈ fs
  · exact u.slot b ob q n hb hx
  · exact ⟨ob.slots, u.keep b ob q n hb hx⟩
theorem Un.trans (a : Un fs ex H H1 h h1) (b : Un fs ex H1 H2 h1 h2) : Un fs ex H H2 h h2 where
  keep := fun c ob q n hc hx => b.keep c ob (a.keep c ob q n hc hx) (a.free c ob q n hx) hc hx
  slot := fun c ob q n hc hx => by
    obtain ⟨sl, e1⟩ := a.slot c ob q n hc hx
    obtain ⟨sl', e2⟩ := b.slot c _ e1 (a.free c ob q n hx) hc hx
    exact ⟨sl', e2⟩
  free := fun c ob q n hx => by
    obtain ⟨o', e1⟩ := a.there c ob q hx
    exact b.free c o' e1 (a.free c ob q n hx) hx
  there := fun c ob q hx => by
    obtain ⟨o', e1⟩ := a.there c ob q hx
    exact b.there c o' e1 hx
  tups := fun c xs q => b.tups c xs (a.tups c xs q)
  frzs := fun c ob xs q => b.frzs c ob xs (a.frzs c ob xs q)
  tbls := fun c ps q => by
    obtain ⟨m1, e1⟩ := a.tbls c ps q
    obtain ⟨m2, e2⟩ := b.tbls c _ e1
    exact ⟨m1 ++ m2, by rw [e2, Array.append_assoc]⟩
theorem Un.kept (k : ∀ b u, h.get? b = some u → h'.get? b = some u) : Un fs ex H H h h' :=
  ⟨fun b ob q _ _ _ => k b ob q, fun b ob q _ _ _ => ⟨ob.slots, k b ob q⟩, fun _ _ _ n _ => n, fun b ob q _ => ⟨ob, k b ob q⟩, fun _ _ q => q, fun _ _ _ q => q, fun _ ps q => ⟨#[], by rw [q]; simp⟩⟩
theorem Un.refl : Un fs ex H H h h := Un.kept fun _ _ q => q
theorem Un.laid (k : ∀ b u, h.get? b = some u → h'.get? b = some u) (hp : h.objs.size ≤ a) (hn : H a = none) : Un fs ex H (upd H a o) h h' where
  keep := fun b u q _ _ _ => k b u q
  slot := fun b u q _ _ _ => ⟨u.slots, k b u q⟩
  free := fun b u q n _ => by rw [upd_ne (Nat.ne_of_lt (Nat.lt_of_lt_of_le (Heap.lt_size q) hp))]; exact n
  there := fun b u q _ => ⟨u, k b u q⟩
  tups := fun b xs q => by rw [upd_ne (ne_of_none q hn)]; exact q
  frzs := fun b u xs q => by rw [upd_ne (ne_of_none q hn)]; exact q
  tbls := fun b ps q => ⟨#[], by rw [upd_ne (ne_of_none q hn), q]; simp⟩
theorem Un.write (mu : Mut (H x)) (he : e = x ∨ H e = some (.own x)) (k : ∀ b u, b ≠ e → h.get? b = some u → h'.get? b = some u) (heo : ∃ u, h'.get? e = some u) : Un fs ex H (upd H x o) h h' := by
  have hx : ∀ b, H b = none → b ≠ x := fun b n z => by subst z; rw [n] at mu; exact mu
  have hb : ∀ b, H b = none → b ≠ e := fun b n z => by
    subst z
    rcases he with r | r
    · exact hx b n r
    · rw [n] at r; cases r
  have hm : ∀ b u, H b = some u → ¬ Mut (some u) → b ≠ x := fun b u q nm z => by subst z; rw [q] at mu; exact nm mu
  refine ⟨fun b u q n _ _ => k b u (hb b n) q, fun b u q n _ _ => ⟨u.slots, k b u (hb b n) q⟩, fun b u q n _ => by rw [upd_ne (hx b n)]; exact n, fun b u q _ => ?_,
    fun b xs q => by rw [upd_ne (hm b _ q fun z => z)]; exact q, fun b u xs q => by rw [upd_ne (hm b _ q fun z => z)]; exact q, fun b ps q => ⟨#[], by rw [upd_ne (hm b _ q fun z => z), q]; simp⟩⟩
  by_cases hbe : b = e
  · subst hbe; exact heo
  · exact ⟨u, k b u hbe q⟩
end

/-! ### the heap without what is tracked -/
def trk (h : Heap) (H : Hp) : List Addr := (List.range h.objs.size).filter fun a => (H a).isSome
def hidT (h : Heap) (H : Hp) : Heap := PySem.W.hideAll h (trk h H)
theorem hidT_size (h : Heap) (H : Hp) : (hidT h H).objs.size = h.objs.size := PySem.W.hideAll_size _ _
theorem hidT_get {h : Heap} {H : Hp} {b : Addr} {o : Obj} (e : h.get? b = some o) (n : H b = none) : (hidT h H).get? b = some o :=
  PySem.W.hideAll_get _ e fun hm => by
    have q : (H b).isSome = true := (List.mem_filter.mp hm).2
    rw [n] at q; simp at q
theorem of_hidT {h : Heap} {H : Hp} {b : Addr} {o : Obj} (e : (hidT h H).get? b = some o) : h.get? b = some o ∧ H b = none := by
  have e' : h.get? b = some o := PySem.W.of_hideAll (trk h H) e
  refine ⟨e', ?_⟩
  cases q : H b with
  | none => rfl
  | some x =>
    have hm : b ∈ trk h H := List.mem_filter.mpr ⟨List.mem_range.mpr (Heap.lt_size e'), by simp [q]⟩
    have z : (hidT h H).get? b = none := PySem.W.hideAll_none (trk h H) hm
    rw [z] at e; cases e

/-! ### OpenK's ledger, filled with every new object but one -/
def allNews (g h : Heap) (L : Addr) : List (Addr × Obj) := (List.range h.objs.size).filterMap fun a => if a = L ∨ (g.get? a).isSome = true then none else (h.get? a).map fun o => (a, o)
def rest (g h : Heap) (L d : Addr) : List (Addr × Obj) := (allNews g h L).filter fun p => decide (p.1 ≠ d)
end L2

namespace L2
open PySem PySem.Spec PyProof.Rows

/-- the module's facts, over the base: the heap at the law's entry without what is tracked there -/
structure Mod (K : PySem.W.Frag) (mg : Str → Option Value) (base : Heap) : Prop where
  kin : K.In base
  glob : base.Ns mainGlobals mg
  blt : ∃ mb, base.Ns builtinsNs mb ∧ ∀ x : Str, x ≠ "__name__" → mb x = bootBuiltins x
  nolimit : base.NoLimit

/-- the context: a def's body (or a comprehension's block) running. base: fixed through the whole law; s₀, H₀: the entry; outer: the frames whose slots others may change (a def's callers); stack: all frames that run;
   ex: iterators that were made ahead of the entry and are walked here (a comprehension's); fn: the names whose cells were made at the entry (a def: all; a comprehension's block: its own); calm: not within an except suite; pn: pins that every state bears; xe: what is wanted of an exception that leaves the code -/
structure Cx where
  prog : Program
  w : World
  K : PySem.W.Frag
  mg : Str → Option Value
  base : Heap
  A : Around
  N : List Str
  s₀ : Shared
  H₀ : Hp
  env : Env
  outer : List Env
  stack : List Env
  ex : List Addr
  fn : Str → Bool
  calm : Bool
  pn : List (Addr × Obj)
  xe : Value → Shared → Prop
/-- the callers' frames -/
def frs (l : List Env) : List Addr := l.filterMap (·.frame)
abbrev Cx.fs (X : Cx) : List Addr := frs X.outer

def Vis (sc : Scope) (x : Str) : Prop := sc.names.lookup x = some .local ∨ sc.names.lookup x = some .cell ∨ sc.names.lookup x = some .free
def Loc (sc : Scope) (x : Str) : Prop := sc.names.lookup x = some .local ∨ sc.names.lookup x = some .cell
def Look (env : Env) (h : Heap) (m : Str → Option Value) (x : Str) (u : Value) : Prop :=
  (env.kindOf x = some .local ∧ m x = some u) ∨ ((env.kindOf x = some .cell ∨ env.kindOf x = some .free) ∧ ∃ c, env.cells.lookup x = some c ∧ h.IsCell c (some u))

structure Cx.Ok (X : Cx) : Prop where
  mod : Mod X.K X.mg X.base
  kind : X.env.scope.kind = .function
  glob : X.env.globals = mainGlobals
  blt : X.env.builtins = builtinsNs
  above : X.s₀.heap.objs.size ≤ X.env.locals
  inj : ∀ x y c, X.env.cells.lookup x = some c → X.env.cells.lookup y = some c → x = y
  has : ∀ x, (X.env.kindOf x = some .cell ∨ X.env.kindOf x = some .free) → ∃ c, X.env.cells.lookup x = some c
  cab : ∀ x c, X.fn x = true → X.env.cells.lookup x = some c → X.s₀.heap.objs.size ≤ c
  hd : X.calm = true → X.A.handled = none
  frames : X.A.frames = some X.stack
  stk : X.stack = X.outer ∨ (X.stack = X.env :: X.outer ∧ X.env.frame = some X.env.locals)
  exf : ∀ b ∈ X.ex, b ≠ X.env.locals ∧ ∀ x c, X.env.cells.lookup x = some c → c ≠ b
  bs : ∀ b o, X.base.get? b = some o → X.s₀.heap.get? b = some o ∧ X.H₀ b = none
  bsz : X.base.objs.size ≤ X.s₀.heap.objs.size
  noex : ∀ b o, X.base.get? b = some o → b ∉ X.ex
  exfs : ∀ b ∈ X.ex, b ∉ X.fs
  funs : X.s₀.heap.FunFrames X.base X.outer
  frf : ∀ b ∈ X.fs, X.H₀ b = none

structure Inv (X : Cx) (pins : List (Addr × Obj)) (σ : List (Option V)) (H : Hp) (s : Shared) : Prop where
  ok : X.Ok
  os : s.os = X.s₀.os
  bare : AllBare s.gens
  base : Un X.fs X.ex X.H₀ H X.s₀.heap s.heap
  loc : ∃ m, s.heap.Ns X.env.locals m ∧ ∀ (i : Nat) (x : Str) (v : V), X.N[i]? = some x → σ[i]? = some (some v) → Vis X.env.scope x → ∃ u, RelV v u ∧ Look X.env s.heap m x u
  cell : ∀ x c, X.env.cells.lookup x = some c → ∃ v, s.heap.IsCell c v
  free : H X.env.locals = none
  freeC : ∀ x c, X.env.cells.lookup x = some c → H c = none
  pin : ∀ p ∈ X.pn ++ pins, s.heap.get? p.1 = some p.2 ∧ H p.1 = none ∧ p.1 ≠ X.env.locals ∧ p.1 ∉ X.fs ∧ ∀ v, p.2.data ≠ .cell v
  hok : HOk X.prog X.w H s.heap
  len : σ.length = X.N.length

section
variable {X : Cx} {pins : List (Addr × Obj)} {σ : List (Option V)} {H H' : Hp} {s : Shared} {h' : Heap}

theorem Cx.Ok.nofr (ok : X.Ok) {b : Addr} {o : Obj} (e : X.base.get? b = some o) : b ∉ X.fs := fun hb => by
  have := (ok.funs.mem hb).1
  rw [e] at this; cases this
theorem Inv.bs (I : Inv X pins σ H s) : ∀ b o, X.base.get? b = some o → s.heap.get? b = some o ∧ H b = none := fun b o e =>
  ⟨I.base.keep b o (I.ok.bs b o e).1 (I.ok.bs b o e).2 (I.ok.nofr e) (I.ok.noex b o e), I.base.free b o (I.ok.bs b o e).1 (I.ok.bs b o e).2 (I.ok.noex b o e)⟩
theorem Inv.bk (I : Inv X pins σ H s) : ∀ b o, X.base.get? b = some o → s.heap.get? b = some o := fun b o e => (I.bs b o e).1
theorem Inv.mod (I : Inv X pins σ H s) : Mod X.K X.mg X.base := I.ok.mod
theorem Inv.kIn (I : Inv X pins σ H s) : X.K.In s.heap := I.ok.mod.kin.keeps I.bk
theorem Inv.lt (I : Inv X pins σ H s) : X.env.locals < s.heap.objs.size := let ⟨_, hn, _⟩ := I.loc; hn.lt
theorem Inv.sz (I : Inv X pins σ H s) : X.s₀.heap.objs.size ≤ s.heap.objs.size := Nat.le_trans I.ok.above (Nat.le_of_lt I.lt)
theorem Inv.nofs (I : Inv X pins σ H s) {a : Addr} (h : s.heap.objs.size ≤ a) : a ∉ X.fs := fun hb => by
  obtain ⟨_, o, ho, _⟩ := I.ok.funs.mem hb
  exact absurd (Nat.lt_of_lt_of_le (Heap.lt_size ho) (Nat.le_trans I.sz h)) (Nat.lt_irrefl _)
theorem Inv.cne (I : Inv X pins σ H s) : ∀ x c, X.env.cells.lookup x = some c → c ≠ X.env.locals := fun x c e z => by
  obtain ⟨v, o, ho, hd⟩ := I.cell x c e
  obtain ⟨m, ⟨o', es, ep, ho', hd', _⟩, _⟩ := I.loc
  rw [z, ho'] at ho; cases ho; rw [hd'] at hd; cases hd
theorem Inv.funs (I : Inv X pins σ H s) : s.heap.FunFrames X.base X.outer := by
  have all : ∀ (l : List Env), (∀ b ∈ frs l, b ∈ X.fs) → X.s₀.heap.FunFrames X.base l → s.heap.FunFrames X.base l := by
    intro l
    induction l with
    | nil => intro _ _; trivial
    | cons env r ih =>
      intro hs hl
      obtain ⟨hk, ⟨L, o, hf, hn, ho, hd⟩, hr⟩ := hl
      have hL : L ∈ X.fs := hs L (by unfold frs; rw [List.filterMap_cons, hf]; exact List.mem_cons_self)
      obtain ⟨sl, e⟩ := I.base.slot L o ho (I.ok.frf L hL) hL fun z => I.ok.exfs L z hL
      exact ⟨hk, ⟨L, _, hf, hn, e, hd⟩, ih (fun b hb => hs b (by unfold frs; rw [List.filterMap_cons, hf]; exact List.mem_cons_of_mem _ hb)) hr⟩
  exact all X.outer (fun _ hb => hb) I.ok.funs

/-- the frames that run, for a call -/
theorem Inv.stack (I : Inv X pins σ H s) : s.heap.FunFrames X.base X.stack := by
  rcases I.ok.stk with e | ⟨e, hf⟩
  · rw [e]; exact I.funs
  · rw [e]
    obtain ⟨m, hn, _⟩ := I.loc
    refine .cons (by rw [I.ok.kind]; decide) hf hn ?_ I.funs
    exact Heap.get?_none_of_le (Nat.le_trans I.ok.bsz I.ok.above)
theorem Inv.stkSub (I : Inv X pins σ H s) : ∀ b ∈ frs X.stack, b ∈ X.env.locals :: X.fs := fun b hb => by
  rcases I.ok.stk with e | ⟨e, hf⟩
  · rw [e] at hb; exact List.mem_cons_of_mem _ hb
  · rw [e] at hb
    unfold frs at hb
    rw [List.filterMap_cons, hf] at hb
    exact hb
theorem Inv.stkFree (I : Inv X pins σ H s) : ∀ b ∈ frs X.stack, H b = none := fun b hb => by
  rcases List.mem_cons.mp (I.stkSub b hb) with e | hb
  · rw [e]; exact I.free
  · obtain ⟨_, o, ho, _⟩ := I.ok.funs.mem hb
    exact I.base.free b o ho (I.ok.frf b hb) fun z => I.ok.exfs b z hb

/-- THE STEP: the untracked objects but the frame and the records at ch are kept (the callers' frames up to slots), the frame's map is kept, the new abstract heap is held -/
theorem Inv.step {g' : Array GenState} {t' : Nat} {d' : Drawn} {ch : List Addr} (I : Inv X pins σ H s)
    (hch : ∀ b ∈ ch, (b ∈ X.ex ∨ X.s₀.heap.objs.size ≤ b) ∧ b ≠ X.env.locals ∧ (∀ x c, X.env.cells.lookup x = some c → c ≠ b) ∧ ∀ p ∈ X.pn ++ pins, p.1 ≠ b)
    (keep : ∀ b o, b ≠ X.env.locals → b ∉ X.fs → b ∉ ch → s.heap.get? b = some o → H b = none → h'.get? b = some o)
    (slot : ∀ b o, b ≠ X.env.locals → b ∈ X.fs → b ∉ ch → s.heap.get? b = some o → H b = none → ∃ sl, h'.get? b = some { o with slots := sl }) (free : ∀ b o, b ∉ ch → s.heap.get? b = some o → H b = none → H' b = none)
    (there : ∀ b o, b ∉ ch → s.heap.get? b = some o → ∃ o', h'.get? b = some o')
    (tups : ∀ b xs, H b = some (.tup xs) → H' b = some (.tup xs)) (frzs : ∀ b o u, H b = some (.frz o u) → H' b = some (.frz o u)) (tbls : ∀ b ps, H b = some (.tbl ps) → ∃ more, H' b = some (.tbl (ps ++ more)))
    (ns : ∀ m, s.heap.Ns X.env.locals m → h'.Ns X.env.locals m) (hok : HOk X.prog X.w H' h') (hg : AllBare g') :
    Inv X pins σ H' { s with heap := h', gens := g', drawn := d', toks := t' } := by
  have neL : ∀ b o, X.s₀.heap.get? b = some o → b ≠ X.env.locals := fun b o e => Nat.ne_of_lt (Nat.lt_of_lt_of_le (Heap.lt_size e) I.ok.above)
  have neC : ∀ b o, X.s₀.heap.get? b = some o → b ∉ X.ex → b ∉ ch := fun b o e hx hb => by
    rcases (hch b hb).1 with z | z
    · exact hx z
    · exact absurd (Nat.lt_of_lt_of_le (Heap.lt_size e) z) (Nat.lt_irrefl _)
  have cellK : ∀ x c, X.env.cells.lookup x = some c → ∀ v, s.heap.IsCell c v → h'.IsCell c v := fun x c e v ⟨o, ho, hd⟩ => by
    have nch : c ∉ ch := fun z => (hch c z).2.2.1 x c e rfl
    by_cases hc : c ∈ X.fs
    · obtain ⟨sl, q⟩ := slot c o (I.cne x c e) hc nch ho (I.freeC x c e)
      exact ⟨_, q, hd⟩
    · exact ⟨o, keep c o (I.cne x c e) hc nch ho (I.freeC x c e), hd⟩
  refine ⟨I.ok, I.os, hg, ⟨fun b o e n hb hx => ?_, fun b o e n hb hx => ?_, fun b o e n hx => ?_, fun b o e hx => ?_, fun b xs e => tups b xs (I.base.tups b xs e), fun b o xs e => frzs b o xs (I.base.frzs b o xs e), fun b ps e => ?_⟩, ?_, fun x c e => ?_, ?_, fun x c e => ?_, fun p hp => ?_, hok, I.len⟩
  · exact keep b o (neL b o e) hb (neC b o e hx) (I.base.keep b o e n hb hx) (I.base.free b o e n hx)
  · obtain ⟨sl, e1⟩ := I.base.slot b o e n hb hx
    obtain ⟨sl', e2⟩ := slot b _ (neL b o e) hb (neC b o e hx) e1 (I.base.free b o e n hx)
    exact ⟨sl', e2⟩
  · obtain ⟨o', e1⟩ := I.base.there b o e hx
    exact free b o' (neC b o e hx) e1 (I.base.free b o e n hx)
  · obtain ⟨o', e1⟩ := I.base.there b o e hx
    exact there b o' (neC b o e hx) e1
  · obtain ⟨m1, e1⟩ := I.base.tbls b ps e
    obtain ⟨m2, e2⟩ := tbls b _ e1
    exact ⟨m1 ++ m2, by rw [e2, Array.append_assoc]⟩
  · obtain ⟨m, hn, hl⟩ := I.loc
    refine ⟨m, ns m hn, fun i x v e1 e2 e3 => ?_⟩
    obtain ⟨u, r, l⟩ := hl i x v e1 e2 e3
    refine ⟨u, r, ?_⟩
    rcases l with l | ⟨k, c, e, z⟩
    · exact .inl l
    · exact .inr ⟨k, c, e, cellK x c e _ z⟩
  · obtain ⟨v, z⟩ := I.cell x c e
    exact ⟨v, cellK x c e v z⟩
  · obtain ⟨m, ⟨o, _, _, ho, _⟩, _⟩ := I.loc
    exact free _ o (fun z => (hch _ z).2.1 rfl) ho I.free
  · obtain ⟨v, o, ho, hd⟩ := I.cell x c e
    exact free c o (fun z => (hch c z).2.2.1 x c e rfl) ho (I.freeC x c e)
  · obtain ⟨e, n, ne, nf, d⟩ := I.pin p hp
    have nch : p.1 ∉ ch := fun z => (hch p.1 z).2.2.2 p hp rfl
    exact ⟨keep p.1 p.2 ne nf nch e n, free p.1 p.2 nch e n, ne, nf, d⟩
/-- .. where the frame's own object is kept too -/
theorem Inv.un {t' : Nat} (I : Inv X pins σ H s) (u : Un X.fs [] H H' s.heap h') (hok : HOk X.prog X.w H' h') : Inv X pins σ H' { s with heap := h', toks := t' } := by
  obtain ⟨m, ⟨o, es, ep, ho, r⟩, _⟩ := id I.loc
  obtain ⟨sl, hL⟩ := u.any ho I.free (by simp)
  exact I.step (g' := s.gens) (d' := s.drawn) (ch := []) (fun _ z => nomatch z) (fun b o _ hb _ e n => u.keep b o e n hb (by simp)) (fun b o _ hb _ e n => u.slot b o e n hb (by simp)) (fun b o _ e n => u.free b o e n (by simp)) (fun b o _ e => u.there b o e (by simp)) u.tups u.frzs u.tbls (fun m' hm => by
    obtain ⟨o', es', ep', ho', r'⟩ := hm
    rw [ho] at ho'; cases ho'
    exact ⟨_, es', ep', hL, r'⟩) hok I.bare
/-- behind a call (or a comprehension's block): the slots of this frame may have changed too, the records at ch may have turned -/
theorem Inv.call {g' : Array GenState} {t' : Nat} {d' : Drawn} {ch : List Addr} (I : Inv X pins σ H s) (u : Un (frs X.stack) ch H H' s.heap h') (hok : HOk X.prog X.w H' h') (hg : AllBare g')
    (hch : ∀ b ∈ ch, (b ∈ X.ex ∨ X.s₀.heap.objs.size ≤ b) ∧ b ≠ X.env.locals ∧ (∀ x c, X.env.cells.lookup x = some c → c ≠ b) ∧ ∀ p ∈ X.pn ++ pins, p.1 ≠ b) :
    Inv X pins σ H' { s with heap := h', gens := g', drawn := d', toks := t' } := by
  obtain ⟨m, ⟨o, es, ep, ho, r⟩, _⟩ := id I.loc
  obtain ⟨sl, hL⟩ := u.any ho I.free fun z => (hch _ z).2.1 rfl
  exact I.step (ch := ch) hch (fun b o hL hb hc e n => u.keep b o e n (fun z => (List.mem_cons.mp (I.stkSub b z)).elim hL hb) hc) (fun b o _ _ hc e n => u.any e n hc) (fun b o hc e n => u.free b o e n hc) (fun b o hc e => u.there b o e hc) u.tups u.frzs u.tbls (fun m' hm => by
    obtain ⟨o', es', ep', ho', r'⟩ := hm
    rw [ho] at ho'; cases ho'
    exact ⟨_, es', ep', hL, r'⟩) hok hg
/-- an untracked record of ours (an iterator) has turned -/
theorem Inv.turned {t' : Nat} {it : Addr} (I : Inv X pins σ H s) (k : ∀ b o, b ≠ it → s.heap.get? b = some o → h'.get? b = some o) (hn : H it = none) (hL : it ≠ X.env.locals)
    (h1 : it ∈ X.ex ∨ X.s₀.heap.objs.size ≤ it) (h2 : ∀ x c, X.env.cells.lookup x = some c → c ≠ it) (h3 : ∀ p ∈ X.pn ++ pins, p.1 ≠ it) : Inv X pins σ H { s with heap := h', toks := t' } := by
  have nit : ∀ b u, H b = some u → b ≠ it := fun b u e z => by rw [z, hn] at e; cases e
  refine I.step (g' := s.gens) (d' := s.drawn) (ch := [it]) (fun b hb => ?_) (fun b o _ _ hc e _ => k b o (fun z => hc (by simp [z])) e) (fun b o _ _ hc e _ => ⟨o.slots, k b o (fun z => hc (by simp [z])) e⟩) (fun _ _ _ _ n => n)
    (fun b o hc e => ⟨o, k b o (fun z => hc (by simp [z])) e⟩) (fun _ _ e => e) (fun _ _ _ e => e) (fun b ps e => ⟨#[], by rw [e]; simp⟩) (fun m hm => ?_) (fun b u e => ?_) I.bare
  · have e : b = it := by simpa using hb
    subst e
    exact ⟨h1, hL, h2, h3⟩
  · obtain ⟨o, es, ep, ho, r⟩ := hm
    exact ⟨o, es, ep, k _ o (Ne.symm hL) ho, r⟩
  · refine (I.hok b u e).stay (fun c v hc q => k c v ?_ q) (fun _ q => q) fun _ _ q => q
    rcases hc with z | z
    · rw [z]; exact nit b u e
    · exact nit c _ z
theorem Inv.tok (I : Inv X pins σ H s) (t : Nat) : Inv X pins σ H { s with toks := t } := I.un (h' := s.heap) (t' := t) Un.refl I.hok
/-- all objects kept -/
theorem Inv.kept {t' : Nat} (I : Inv X pins σ H s) (k : ∀ b u, s.heap.get? b = some u → h'.get? b = some u) : Inv X pins σ H { s with heap := h', toks := t' } := I.un (Un.kept k) (I.hok.kept k)
/-- a new object laid and tracked -/
theorem Inv.laid {a : Addr} {o : HO} {t' : Nat} (I : Inv X pins σ H s) (k : ∀ b u, s.heap.get? b = some u → h'.get? b = some u) (hp : s.heap.objs.size ≤ a) (new : ObjOk X.prog X.w (upd H a o) h' a o) :
    Inv X pins σ (upd H a o) { s with heap := h', toks := t' } := I.un (Un.laid k hp (I.hok.fresh hp)) (I.hok.laid k hp new)
/-- an object written -/
theorem Inv.write {x e : Addr} {o : HO} {t' : Nat} (I : Inv X pins σ H s) (mu : Mut (H x)) (he : e = x ∨ H e = some (.own x)) (k : ∀ b u, b ≠ e → s.heap.get? b = some u → h'.get? b = some u) (heo : ∃ u, h'.get? e = some u)
    (new : ObjOk X.prog X.w (upd H x o) h' x o) : Inv X pins σ (upd H x o) { s with heap := h', toks := t' } := I.un (Un.write mu he k heo) (I.hok.write mu he k heo new)
theorem Inv.pins_of {pins' : List (Addr × Obj)} (I : Inv X pins σ H s) (h : ∀ p ∈ pins', s.heap.get? p.1 = some p.2 ∧ H p.1 = none ∧ p.1 ≠ X.env.locals ∧ p.1 ∉ X.fs ∧ ∀ v, p.2.data ≠ .cell v) : Inv X pins' σ H s :=
  ⟨I.ok, I.os, I.bare, I.base, I.loc, I.cell, I.free, I.freeC, fun p hp => (List.mem_append.mp hp).elim (fun z => I.pin p (List.mem_append_left _ z)) (h p), I.hok, I.len⟩

theorem nodup_ix {N : List Str} (hN : N.Nodup) {i j : Nat} {x : Str} (a : N[i]? = some x) (b : N[j]? = some x) : i = j := by
  obtain ⟨h1, e1⟩ := List.getElem?_eq_some_iff.mp a
  obtain ⟨h2, e2⟩ := List.getElem?_eq_some_iff.mp b
  exact (List.getElem_inj hN).mp (e1.trans e2.symm)

/-- a name is stored; what changed -/
theorem store_ok2 {M : Model} {A : Around} {E : Value → Shared → Prop} {i : Nat} {x : Str} {v : V} {u : Value} {Q : Unit → Shared → Prop} (I : Inv X pins σ H s) (hN : X.N.Nodup) (hi : X.N[i]? = some x) (hx : Loc X.env.scope x) (r : RelV v u)
    (h : ∀ s', Inv X pins (σ.set i (some v)) H s' → (∃ a, Heap.SameBut a s.heap s'.heap ∧ (a = X.env.locals ∨ X.env.cells.lookup x = some a)) → Q () s') (hf : X.fn x = true ∨ X.env.scope.names.lookup x = some .local := by first | exact .inl rfl | exact .inr rfl | assumption) : wpAny M A (storeName X.env x u) Q E s := by
  obtain ⟨m, hn, hl⟩ := id I.loc
  have hcls : (X.env.scope.kind == .class || (X.env.scope.kind == .module && X.env.locals != X.env.globals)) = false := by rw [I.ok.kind]; rfl
  have hiσ : i < σ.length := by rw [I.len]; exact (List.getElem?_eq_some_iff.mp hi).1
  have cne := I.cne
  have tracked : ∀ {a : Addr} {h' : Heap}, (∃ o, s.heap.get? a = some o ∧ H a = none) → Heap.SameBut a s.heap h' → HOk X.prog X.w H h' := fun {a h'} ha hs b ob e => by
    obtain ⟨_, _, hfree⟩ := ha
    refine (I.hok b ob e).stay (fun c w' hc q => (hs.2 c ?_).trans q) (fun _ q => q) fun _ _ q => q
    rintro rfl
    rcases hc with rfl | hc
    · rw [hfree] at e; cases e
    · rw [hfree] at hc; cases hc
  rcases hx with hk | hk
  · refine wpAny_storeName_local hk hn (fun h' hn' hs => ?_) hcls
    obtain ⟨oL, _, _, hoL, _⟩ := id hn
    refine h _ ⟨I.ok, I.os, I.bare, ⟨fun b o e n hb hx => ?_, fun b o e n hb hx => ?_, I.base.free, fun b o e hx => ?_, I.base.tups, I.base.frzs, I.base.tbls⟩, ⟨_, hn', fun j y v' e1 e2 e3 => ?_⟩, fun y c e => ?_, I.free, I.freeC, fun p hp => ?_, tracked ⟨oL, hoL, I.free⟩ hs, by simpa using I.len⟩ ⟨_, hs, .inl rfl⟩
    · exact (hs.2 b (Nat.ne_of_lt (Nat.lt_of_lt_of_le (Heap.lt_size e) I.ok.above))).trans (I.base.keep b o e n hb hx)
    · obtain ⟨sl, e1⟩ := I.base.slot b o e n hb hx
      exact ⟨sl, (hs.2 b (Nat.ne_of_lt (Nat.lt_of_lt_of_le (Heap.lt_size e) I.ok.above))).trans e1⟩
    · obtain ⟨o', e1⟩ := I.base.there b o e hx
      exact ⟨o', (hs.2 b (Nat.ne_of_lt (Nat.lt_of_lt_of_le (Heap.lt_size e) I.ok.above))).trans e1⟩
    · by_cases hj : j = i
      · subst hj
        rw [hi] at e1; cases e1
        rw [List.getElem?_set_self hiσ] at e2
        cases e2
        exact ⟨u, r, .inl ⟨hk, by simp⟩⟩
      · rw [List.getElem?_set_ne (Ne.symm hj)] at e2
        obtain ⟨u', r', q⟩ := hl j y v' e1 e2 e3
        refine ⟨u', r', ?_⟩
        rcases q with ⟨k, e⟩ | ⟨k, c, e, z⟩
        · refine .inl ⟨k, ?_⟩
          have : y ≠ x := fun e => hj (nodup_ix hN e1 (e ▸ hi))
          simp [this, e]
        · exact .inr ⟨k, c, e, z.sameBut hs (cne y c e)⟩
    · obtain ⟨w', z⟩ := I.cell y c e
      exact ⟨w', z.sameBut hs (cne y c e)⟩
    · obtain ⟨e, n, ne, nf, d⟩ := I.pin p hp
      exact ⟨(hs.2 p.1 ne).trans e, n, ne, nf, d⟩
  · have hfn : X.fn x = true := by
      rcases hf with z | z
      · exact z
      · rw [z] at hk; cases hk
    obtain ⟨c, hc⟩ := I.ok.has x (.inl hk)
    obtain ⟨w', z⟩ := I.cell x c hc
    refine wpAny_storeName_cell I.ok.kind hk hc z (fun h' hc' hs => ?_)
    obtain ⟨oc, hoc, hocd⟩ := id z
    refine h { s with heap := h' } ⟨I.ok, I.os, I.bare, ⟨fun b o e n hb hx => ?_, fun b o e n hb hx => ?_, I.base.free, fun b o e hx => ?_, I.base.tups, I.base.frzs, I.base.tbls⟩, ⟨m, hn.sameBut hs (Ne.symm (cne x c hc)), fun j y v' e1 e2 e3 => ?_⟩, fun y c' e => ?_, I.free, I.freeC, fun p hp => ?_, tracked ⟨oc, hoc, I.freeC x c hc⟩ hs, by simpa using I.len⟩ ⟨c, hs, .inr hc⟩
    · exact (hs.2 b (Nat.ne_of_lt (Nat.lt_of_lt_of_le (Heap.lt_size e) (I.ok.cab x c hfn hc)))).trans (I.base.keep b o e n hb hx)
    · obtain ⟨sl, e1⟩ := I.base.slot b o e n hb hx
      exact ⟨sl, (hs.2 b (Nat.ne_of_lt (Nat.lt_of_lt_of_le (Heap.lt_size e) (I.ok.cab x c hfn hc)))).trans e1⟩
    · obtain ⟨o', e1⟩ := I.base.there b o e hx
      exact ⟨o', (hs.2 b (Nat.ne_of_lt (Nat.lt_of_lt_of_le (Heap.lt_size e) (I.ok.cab x c hfn hc)))).trans e1⟩
    · by_cases hj : j = i
      · subst hj
        rw [hi] at e1; cases e1
        rw [List.getElem?_set_self hiσ] at e2
        cases e2
        exact ⟨u, r, .inr ⟨.inl hk, c, hc, hc'⟩⟩
      · rw [List.getElem?_set_ne (Ne.symm hj)] at e2
        obtain ⟨u', r', q⟩ := hl j y v' e1 e2 e3
        refine ⟨u', r', ?_⟩
        rcases q with q | ⟨k, c', e, z'⟩
        · exact .inl q
        · refine .inr ⟨k, c', e, z'.sameBut hs ?_⟩
          rintro rfl
          exact hj (nodup_ix hN e1 (I.ok.inj _ _ _ e hc ▸ hi))
    · by_cases hcc : c' = c
      · subst hcc; exact ⟨_, hc'⟩
      · obtain ⟨w2, z2⟩ := I.cell y c' e
        exact ⟨w2, z2.sameBut hs hcc⟩
    · obtain ⟨e, n, ne, nf, d⟩ := I.pin p hp
      refine ⟨(hs.2 p.1 ?_).trans e, n, ne, nf, d⟩
      intro q
      rw [q, hoc] at e
      have q' : oc = p.2 := Option.some.inj e
      exact d w' (by rw [← q']; exact hocd)
theorem store_ok {M : Model} {A : Around} {E : Value → Shared → Prop} {i : Nat} {x : Str} {v : V} {u : Value} {Q : Unit → Shared → Prop} (I : Inv X pins σ H s) (hN : X.N.Nodup) (hi : X.N[i]? = some x) (hx : Loc X.env.scope x) (r : RelV v u)
    (h : ∀ s', Inv X pins (σ.set i (some v)) H s' → Q () s') (hf : X.fn x = true ∨ X.env.scope.names.lookup x = some .local := by first | exact .inl rfl | exact .inr rfl | assumption) : wpAny M A (storeName X.env x u) Q E s :=
  store_ok2 I hN hi hx r (fun s' I' _ => h s' I') hf
/-- behind a call or a block, the state as it is -/
theorem Inv.call' {s' : Shared} {ch : List Addr} (I : Inv X pins σ H s) (ho : s'.os = s.os) (u : Un (frs X.stack) ch H H' s.heap s'.heap) (hok : HOk X.prog X.w H' s'.heap) (hg : AllBare s'.gens)
    (hch : ∀ b ∈ ch, (b ∈ X.ex ∨ X.s₀.heap.objs.size ≤ b) ∧ b ≠ X.env.locals ∧ (∀ x c, X.env.cells.lookup x = some c → c ≠ b) ∧ ∀ p ∈ X.pn ++ pins, p.1 ≠ b) : Inv X pins σ H' s' := by
  obtain ⟨h', g', d', t', o'⟩ := s'
  have e : o' = s.os := ho
  subst e
  exact I.call (g' := g') (t' := t') (d' := d') u hok hg hch
end

/-! ### the judgements -/
/-- an exception: its class, its own dict's address (where it has one), the abstract heap behind it -/
abbrev XK := Value → Option Addr → Hp → Prop
abbrev St := List (Option V)
abbrev VK := V → Hp → Prop
/-- an expression's reading; a test's; an argument list's -/
abbrev TE := St → Hp → VK → Prop
abbrev TT := St → Hp → (Bool → Hp → Prop) → Prop
abbrev TA := St → Hp → (List V → Hp → Prop) → Prop
/-- what is wanted behind a statement -/
structure Ends where
  nx : St → Hp → Prop
  rt : VK
  bk : St → Hp → Prop := fun _ _ => False
  ct : St → Hp → Prop := fun _ _ => False
abbrev TS := Ends → St → Hp → Prop

def EP (X : Cx) (pins : List (Addr × Obj)) (σ : St) (Q : VK) (u : Value) (s' : Shared) : Prop := ∃ v H', Inv X pins σ H' s' ∧ RelV v u ∧ Q v H'
def TP (X : Cx) (pins : List (Addr × Obj)) (σ : St) (Q : Bool → Hp → Prop) (b : Bool) (s' : Shared) : Prop := ∃ H', Inv X pins σ H' s' ∧ Q b H'
def AP (X : Cx) (pins : List (Addr × Obj)) (σ : St) (Q : List V → Hp → Prop) (us : List Value) (s' : Shared) : Prop := ∃ vs H', Inv X pins σ H' s' ∧ Vals vs us ∧ Q vs H'
def SP (X : Cx) (pins : List (Addr × Obj)) (D : Ends) (f : Flow) (s' : Shared) : Prop :=
  match f with
  | .next => ∃ σ' H', Inv X pins σ' H' s' ∧ D.nx σ' H'
  | .brk => ∃ σ' H', Inv X pins σ' H' s' ∧ D.bk σ' H'
  | .cont => ∃ σ' H', Inv X pins σ' H' s' ∧ D.ct σ' H'
  | .ret u => ∃ v σ' H', Inv X pins σ' H' s' ∧ RelV v u ∧ D.rt v H'

def PE (X : Cx) (e : Expr) (t : TE) : Prop :=
  ∀ (pins : List (Addr × Obj)) (s : Shared) (σ : St) (H : Hp) (Q : VK), Inv X pins σ H s → t σ H Q → wpAny (model X.prog X.w) X.A (eval e X.env) (EP X pins σ Q) X.xe s
def PT (X : Cx) (e : Expr) (t : TT) : Prop :=
  ∀ (pins : List (Addr × Obj)) (s : Shared) (σ : St) (H : Hp) (Q : Bool → Hp → Prop), Inv X pins σ H s → t σ H Q → wpAny (model X.prog X.w) X.A (isTrue e X.env (eval e X.env)) (TP X pins σ Q) X.xe s
/-- a test whatever its 'whole' is (and, or) -/
def PW (X : Cx) (e : Expr) (t : TT) : Prop :=
  ∀ (whole : Sem Value) (pins : List (Addr × Obj)) (s : Shared) (σ : St) (H : Hp) (Q : Bool → Hp → Prop), Inv X pins σ H s → t σ H Q → wpAny (model X.prog X.w) X.A (isTrue e X.env whole) (TP X pins σ Q) X.xe s
theorem PW.pt {X : Cx} {e : Expr} {t : TT} (h : PW X e t) : PT X e t := h _
/-- an argument list (no star), from the left -/
def PA (X : Cx) (es : List Expr) (t : TA) : Prop :=
  ∀ (pos : Pos) (pins : List (Addr × Obj)) (s : Shared) (σ : St) (H : Hp) (Q : List V → Hp → Prop), Inv X pins σ H s → t σ H Q → wpAny (model X.prog X.w) X.A (spliced (backTo pos (starEach es X.env))) (AP X pins σ Q) X.xe s
def PS (X : Cx) (st : Stmt) (t : TS) : Prop :=
  ∀ (pins : List (Addr × Obj)) (s : Shared) (σ : St) (H : Hp) (D : Ends), Inv X pins σ H s → t D σ H → wpAny (model X.prog X.w) X.A (exec st X.env) (SP X pins D) X.xe s
def PSs (X : Cx) (st : List Stmt) (t : TS) : Prop :=
  ∀ (pins : List (Addr × Obj)) (s : Shared) (σ : St) (H : Hp) (D : Ends), Inv X pins σ H s → t D σ H → wpAny (model X.prog X.w) X.A (execs st X.env) (SP X pins D) X.xe s
/-- weaken the end -/
theorem thn {α : Type} {t : Sem α} {Q Q' : α → Shared → Prop} {M : Model} {A : Around} {E : Value → Shared → Prop} {s : Shared} (h : wpAny M A t Q E s) (hQ : ∀ a s, Q a s → Q' a s) : wpAny M A t Q' E s := wpAny_mono h hQ fun _ _ x => x
end L2

namespace L2
open PySem PySem.Spec PyProof.Rows
section
variable {X : Cx}

/-- two expressions in a row -/
theorem bin {a b : Expr} {ta tb : TE} (ha : PE X a ta) (hb : PE X b tb) {pins : List (Addr × Obj)} {s : Shared} {σ : St} {H : Hp} {R : V → V → Hp → Prop} (I : Inv X pins σ H s) (h : ta σ H fun x H1 => tb σ H1 fun y H2 => R x y H2)
    {α : Type} {Q : α → Shared → Prop} {f : Value → Value → Sem α}
    (hf : ∀ v u s2 x y H2, Inv X pins σ H2 s2 → RelV x v → RelV y u → R x y H2 → wpAny (model X.prog X.w) X.A (f v u) Q X.xe s2) :
    wpAny (model X.prog X.w) X.A (eval a X.env) (fun v s₁ => wpAny (model X.prog X.w) X.A (eval b X.env) (fun u s₂ => wpAny (model X.prog X.w) X.A (f v u) Q X.xe s₂) X.xe s₁) X.xe s := by
  refine thn (ha pins s σ H _ I h) fun v s1 ⟨x, H1, I1, r1, q1⟩ => ?_
  refine thn (hb pins s1 σ H1 _ I1 q1) fun u s2 ⟨y, H2, I2, r2, q2⟩ => ?_
  exact hf v u s2 x y H2 I2 r1 r2 q2

/-! ### names and constants -/
def tVar (i : Nat) : TE := fun σ H Q => ∃ v, σ[i]? = some (some v) ∧ Q v H
def tC (v : V) : TE := fun _ H Q => Q v H
theorem pe_var {i : Nat} {x : Str} {pos : Pos} (hN : X.N[i]? = some x) (hv : Vis X.env.scope x) (hd : (x == ("__debug__" : Str)) = false := by decide) (hcd : (x == ("__classdict__" : Str)) = false := by decide) : PE X (.Name x pos) (tVar i) := by
  intro pins s σ H Q I h
  obtain ⟨v, e, h⟩ := h
  obtain ⟨m, hn, hl⟩ := I.loc
  obtain ⟨u, r, l⟩ := hl i x v hN e hv
  have fin : EP X pins σ Q u s := ⟨v, H, I, r, h⟩
  rcases l with ⟨hk, hm⟩ | ⟨hk, c, hc, hcell⟩
  · exact wpAny_Name (wpAny_loadName_local I.ok.kind hk hn hm fin) hd
  · rcases hk with hk | hk
    · exact wpAny_Name (wpAny_loadName_cell I.ok.kind hk hc hcell fin) hd
    · exact wpAny_Name (wpAny_loadName_free I.ok.kind hk hc hcell fin hcd) hd
theorem pe_int {i j pos} : PE X (.Constant (.int i) j pos) (tC (.int i)) := fun _ _ _ H _ I h => wpAny_Constant_int ⟨.int i, H, I.tok _, ⟨_, rfl⟩, h⟩
theorem pe_bl {b j pos} : PE X (.Constant (.bool b) j pos) (tC (.bl b)) := fun _ _ _ H _ I h => Constant_bool ⟨.bl b, H, I, rfl, h⟩
theorem pe_non {j pos} : PE X (.Constant .none j pos) (tC .non) := fun _ _ _ H _ I h => Constant_none ⟨.non, H, I, rfl, h⟩
theorem pe_str {x j pos} : PE X (.Constant (.str x) j pos) (tC (.str x)) := fun _ _ _ H _ I h => Calls.Constant_str ⟨.str x, H, I.tok _, ⟨_, rfl⟩, h⟩

/-- a global name of the def -/
def Gl (X : Cx) (x : Str) : Prop := X.env.kindOf x = some .globalImplicit
theorem ld_glob {E : Value → Shared → Prop} {pins : List (Addr × Obj)} {s : Shared} {σ : St} {H : Hp} {x : Str} {u : Value} {pos : Pos} {Q : Value → Shared → Prop} (I : Inv X pins σ H s) (hg : Gl X x) (hm : X.mg x = some u) (h : Q u s)
    (hd : (x == ("__debug__" : Str)) = false := by decide) : wpAny (model X.prog X.w) X.A (eval (.Name x pos) X.env) Q E s :=
  Calls.Name_function_global I.ok.kind hg (Calls.loadGlobal_global (by rw [I.ok.glob]; exact I.mod.glob.keeps I.bk) hm h) hd
theorem ld_blt {E : Value → Shared → Prop} {pins : List (Addr × Obj)} {s : Shared} {σ : St} {H : Hp} {x : Str} {u : Value} {pos : Pos} {Q : Value → Shared → Prop} (I : Inv X pins σ H s) (hg : Gl X x) (hm : X.mg x = none) (hv : bootBuiltins x = some u) (h : Q u s)
    (hn : x ≠ "__name__" := by decide) (hd : (x == ("__debug__" : Str)) = false := by decide) : wpAny (model X.prog X.w) X.A (eval (.Name x pos) X.env) Q E s := by
  obtain ⟨mb, h1, h2⟩ := I.mod.blt
  exact Calls.Name_function_global I.ok.kind hg (Calls.loadGlobal_builtin (by rw [I.ok.glob]; exact I.mod.glob.keeps I.bk) hm (by rw [I.ok.blt]; exact h1.keeps I.bk) ((h2 x hn).trans hv) h) hd
/-- a module's constant, a class, a function, as a value -/
theorem pe_glob {x : Str} {v : V} {u : Value} {pos : Pos} (hg : Gl X x) (hm : X.mg x = some u) (r : RelV v u) (hd : (x == ("__debug__" : Str)) = false := by decide) : PE X (.Name x pos) (tC v) :=
  fun _ _ _ H _ I h => ld_glob I hg hm ⟨v, H, I, r, h⟩ hd
theorem pe_bltn {x : Str} {v : V} {u : Value} {pos : Pos} (hg : Gl X x) (hm : X.mg x = none) (hv : bootBuiltins x = some u) (r : RelV v u) (hn : x ≠ "__name__" := by decide) (hd : (x == ("__debug__" : Str)) = false := by decide) : PE X (.Name x pos) (tC v) :=
  fun _ _ _ H _ I h => ld_blt I hg hm hv ⟨v, H, I, r, h⟩ hn hd

/-! ### arithmetic -/
variable {a b : Expr} {ta tb : TE} {pos : Pos}
/-! ### comparisons -/
def PC (X : Cx) (op : CmpOp) (a b : Expr) (t : TE) : Prop :=
  ∀ (pins : List (Addr × Obj)) (s : Shared) (σ : St) (H : Hp) (Q : VK), Inv X pins σ H s → t σ H Q →
    wpAny (model X.prog X.w) X.A (eval a X.env) (fun v s₁ => wpAny (model X.prog X.w) X.A (eval b X.env) (fun u s₂ => wpAny (model X.prog X.w) X.A (compareOp op v u) (EP X pins σ Q) X.xe s₂) X.xe s₁) X.xe s
theorem nobehind (b : Expr) {op : CmpOp} (h : op ≠ .In) (h2 : op ≠ .NotIn) : behindInMarks op b = false := by
  have e1 : (op == CmpOp.In) = false := by cases op <;> first | rfl | exact absurd rfl h
  have e2 : (op == CmpOp.NotIn) = false := by cases op <;> first | rfl | exact absurd rfl h2
  cases b <;> simp [behindInMarks, e1, e2]
/-- is None -/
def tIsN (ta : TE) : TE := fun σ H Q => ta σ H fun x H1 => Q (.bl (decide (x = .non))) H1
theorem RelV.none_iff {x : V} {v : Value} (r : RelV x v) : (v == Value.none) = decide (x = .non) := by
  cases x with
  | non => cases r; rfl
  | bl _ => cases r; rfl
  | int _ => obtain ⟨t, rfl⟩ := r; rfl
  | str _ => obtain ⟨t, rfl⟩ := r; rfl
  | byt _ => obtain ⟨t, rfl⟩ := r; rfl
  | flt _ => obtain ⟨t, rfl⟩ := r; rfl
  | ref _ => cases r; rfl
  | ty _ => cases r; rfl
theorem pc_isN {j pos'} (ha : PE X a ta) : PC X .Is a (.Constant .none j pos') (tIsN ta) := by
  intro pins s σ H Q I h
  refine thn (ha pins s σ H _ I h) fun v s1 ⟨x, H1, I1, r1, q1⟩ => ?_
  exact Constant_none (is_none_gen ⟨.bl _, H1, I1, by rw [r1.none_iff]; rfl, q1⟩)
/-- a comparison as a value, as a test -/
def tB (t : TE) : TT := fun σ H Q => t σ H fun x H1 => ∃ c, x = .bl c ∧ Q c H1
theorem pt_cmp {op : CmpOp} {t : TE} (h : PC X op a b t) (h1 : behindInMarks op b = false := by first | exact nobehind _ (by decide) (by decide) | rfl) : PT X (.Compare a [op] [b] pos) (tB t) := by
  intro pins s σ H Q I hw
  refine wpAny_isTrue_Compare1 (thn (h pins s σ H _ I hw) fun v s1 h1 => thn h1 fun u s2 h2 => thn h2 fun c s3 ⟨x, H1, I1, r1, q1⟩ => ?_) h1
  obtain ⟨d, rfl, q⟩ := q1
  cases r1
  exact wpAny_truthy_bool ⟨H1, I1, q⟩
/-- an expression whose value is a bool, as a test -/
theorem pt_val {e : Expr} {t : TE} (h : PE X e t) (he : ∀ whole, isTrue e X.env whole = (do let v ← whole; standAt e.pos; holding [v] (truthy v)) := by intro _; rfl) : PT X e (tB t) := by
  intro pins s σ H Q I hw
  refine isTrue_plain (thn (h pins s σ H _ I hw) fun v s1 ⟨x, H1, I1, r1, q1⟩ => ?_) (he _)
  obtain ⟨d, rfl, q⟩ := q1
  cases r1
  exact wpAny_truthy_bool ⟨H1, I1, q⟩

/-! ### and, or, not -/
variable {tA tB' : TT} {rest : List Expr}
def tAnd (t u : TT) : TT := fun σ H Q => t σ H fun c H1 => if c = true then u σ H1 Q else Q false H1
def tOr (t u : TT) : TT := fun σ H Q => t σ H fun c H1 => if c = true then Q true H1 else u σ H1 Q
def tNot (t : TT) : TT := fun σ H Q => t σ H fun c H1 => Q (!c) H1
theorem pw_and1 (ha : PT X a tA) : PW X (.BoolOp .And [a] pos) tA := by
  intro wh pins s σ H Q I h
  refine isTrue_and (thn (ha pins s σ H Q I h) fun c s1 e => ?_)
  cases c with
  | true => exact isTrue_and_nil e
  | false => exact e
theorem pw_or1 (ha : PT X a tA) : PW X (.BoolOp .Or [a] pos) tA := by
  intro wh pins s σ H Q I h
  refine isTrue_or (thn (ha pins s σ H Q I h) fun c s1 e => ?_)
  cases c with
  | false => exact isTrue_or_nil e
  | true => exact e
theorem pw_and (ha : PT X a tA) (hb : PW X (.BoolOp .And (b :: rest) pos) tB') : PW X (.BoolOp .And (a :: b :: rest) pos) (tAnd tA tB') := by
  intro wh pins s σ H Q I h
  refine isTrue_and (thn (ha pins s σ H _ I h) fun c s1 ⟨H1, I1, q1⟩ => ?_)
  cases c with
  | true => exact hb wh pins s1 σ H1 Q I1 q1
  | false => exact ⟨H1, I1, q1⟩
theorem pw_or (ha : PT X a tA) (hb : PW X (.BoolOp .Or (b :: rest) pos) tB') : PW X (.BoolOp .Or (a :: b :: rest) pos) (tOr tA tB') := by
  intro wh pins s σ H Q I h
  refine isTrue_or (thn (ha pins s σ H _ I h) fun c s1 ⟨H1, I1, q1⟩ => ?_)
  cases c with
  | true => exact ⟨H1, I1, q1⟩
  | false => exact hb wh pins s1 σ H1 Q I1 q1
theorem pt_not (ha : PT X a tA) : PT X (.UnaryOp .Not a pos) (tNot tA) := by
  intro pins s σ H Q I h
  exact isTrue_not (ha pins s σ H (fun c H1 => Q (!c) H1) I h)
/-- .. as values (bools) -/
def tAndV (ta tb : TE) : TE := fun σ H Q => ta σ H fun x H1 => ∃ c, x = .bl c ∧ if c = true then tb σ H1 Q else Q (.bl false) H1
def tOrV (ta tb : TE) : TE := fun σ H Q => ta σ H fun x H1 => ∃ c, x = .bl c ∧ if c = true then Q (.bl true) H1 else tb σ H1 Q
def tNotV (ta : TE) : TE := fun σ H Q => ta σ H fun x H1 => ∃ c, x = .bl c ∧ Q (.bl (!c)) H1
theorem pe_one {op} {t : TE} (h : PE X a t) : PE X (.BoolOp op [a] pos) t := fun pins s σ H Q I hw => BoolOp_one (h pins s σ H Q I hw)
theorem pe_and (ha : PE X a ta) (hb : PE X (.BoolOp .And (b :: rest) pos) tb) : PE X (.BoolOp .And (a :: b :: rest) pos) (tAndV ta tb) := by
  intro pins s σ H Q I h
  refine BoolOp_and (thn (ha pins s σ H _ I h) fun v s1 ⟨x, H1, I1, r1, q1⟩ => ?_)
  obtain ⟨c, rfl, q1⟩ := q1
  cases r1
  refine wpAny_truthy_bool ?_
  cases c with
  | true => exact hb pins s1 σ H1 Q I1 q1
  | false => exact ⟨.bl false, H1, I1, rfl, q1⟩
theorem pe_or (ha : PE X a ta) (hb : PE X (.BoolOp .Or (b :: rest) pos) tb) : PE X (.BoolOp .Or (a :: b :: rest) pos) (tOrV ta tb) := by
  intro pins s σ H Q I h
  refine BoolOp_or (thn (ha pins s σ H _ I h) fun v s1 ⟨x, H1, I1, r1, q1⟩ => ?_)
  obtain ⟨c, rfl, q1⟩ := q1
  cases r1
  refine wpAny_truthy_bool ?_
  cases c with
  | false => exact hb pins s1 σ H1 Q I1 q1
  | true => exact ⟨.bl true, H1, I1, rfl, q1⟩
theorem pe_not (ha : PE X a ta) : PE X (.UnaryOp .Not a pos) (tNotV ta) := by
  intro pins s σ H Q I h
  refine UnaryOp_ (thn (ha pins s σ H _ I h) fun v s1 ⟨x, H1, I1, r1, q1⟩ => ?_)
  obtain ⟨c, rfl, q1⟩ := q1
  cases r1
  exact not_of (wpAny_truthy_bool ⟨.bl (!c), H1, I1, rfl, q1⟩)
end
end L2

namespace L2
open PySem PySem.Spec PyProof.Rows

/-! ### a list, a tuple that is read: tracked, frozen, or an object of the module -/
def SqL (K : PySem.W.Frag) (H : Hp) (a : Addr) (xs : List V) : Prop :=
  Rd H a (.lst xs) ∨
    ∃ (o : Obj) (its : Array Value) (n : Nat), K.lookup a = some o ∧ o.cls = .type "list" ∧ o.dict = none ∧ o.data = .seq its n ∧ its.size ≤ sizeLine ∧ Vals xs its.toList
def SqT (K : PySem.W.Frag) (H : Hp) (a : Addr) (xs : List V) : Prop :=
  Rd H a (.tup xs) ∨
    ∃ (o : Obj) (its : Array Value) (n : Nat), K.lookup a = some o ∧ o.cls = .type "tuple" ∧ o.data = .seq its n ∧ its.size ≤ sizeLine ∧ Vals xs its.toList
def absV : Value → Option V
  | .none => some .non
  | .bool b => some (.bl b)
  | .int i _ => some (.int i)
  | .str x _ => some (.str x)
  | .bytes b _ => some (.byt b)
  | .float b _ => some (.flt b)
  | .ref a => some (.ref a)
  | .type n => some (.ty n)
  | _ => none
theorem RelV.abs {x : V} {u : Value} (r : RelV x u) : absV u = some x := by
  cases x with
  | non => cases r; rfl
  | bl _ => cases r; rfl
  | int _ => obtain ⟨t, rfl⟩ := r; rfl
  | str _ => obtain ⟨t, rfl⟩ := r; rfl
  | byt _ => obtain ⟨t, rfl⟩ := r; rfl
  | flt _ => obtain ⟨t, rfl⟩ := r; rfl
  | ref _ => cases r; rfl
  | ty _ => cases r; rfl
theorem RelV.inj {x y : V} {u : Value} (r : RelV x u) (q : RelV y u) : x = y := Option.some.inj (r.abs.symm.trans q.abs)
theorem Vals.inj : ∀ {xs ys : List V} {us : List Value}, Vals xs us → Vals ys us → xs = ys
  | _, _, _, .nil, .nil => rfl
  | _, _, _, .cons r t, .cons r' t' => by rw [r.inj r', Vals.inj t t']
section
variable {X : Cx} {pins : List (Addr × Obj)} {σ : St} {H : Hp} {s : Shared} {a : Addr} {xs ys : List V}
theorem SqL.of {K : PySem.W.Frag} (h : H a = some (.lst xs)) : SqL K H a xs := .inl (.inl h)
theorem SqT.of {K : PySem.W.Frag} (h : H a = some (.tup xs)) : SqT K H a xs := .inl (.inl h)
theorem Inv.list (I : Inv X pins σ H s) (h : SqL X.K H a xs) : ∃ its : List Value, Vals xs its ∧ PlainL s.heap a its.toArray ∧ xs.length ≤ sizeLine := by
  rcases h with h | ⟨o, its, n, hk, hc, hd, hs, hz, r⟩
  · obtain ⟨z, its, n, r, e⟩ := h.ok I.hok
    exact ⟨its, r, ⟨_, n, e, rfl, rfl, rfl⟩, z⟩
  · refine ⟨its.toList, r, ⟨o, n, I.kIn a o hk, hc, hd, by simpa using hs⟩, ?_⟩
    have e := r.length
    simp only [Array.length_toList] at e
    omega
theorem Inv.tuple (I : Inv X pins σ H s) (h : SqT X.K H a xs) : ∃ its : List Value, Vals xs its ∧ IsTup s.heap a its.toArray ∧ xs.length ≤ sizeLine := by
  rcases h with h | ⟨o, its, n, hk, hc, hs, hz, r⟩
  · obtain ⟨z, its, r, p⟩ := h.ok I.hok
    exact ⟨its, r, p, z⟩
  · refine ⟨its.toList, r, ⟨o, I.kIn a o hk, hc, n, by simpa using hs⟩, ?_⟩
    have e := r.length
    simp only [Array.length_toList] at e
    omega
theorem Inv.list_inj (I : Inv X pins σ H s) (h : SqL X.K H a xs) (h' : SqL X.K H a ys) : xs = ys := by
  obtain ⟨its, r, ⟨o, n, e, _, _, d⟩, _⟩ := I.list h
  obtain ⟨its', r', ⟨o', n', e', _, _, d'⟩, _⟩ := I.list h'
  rw [e] at e'; cases e'
  rw [d] at d'
  injection d' with d1 _
  have : its = its' := by simpa using congrArg Array.toList d1
  subst this
  exact r.inj r'
theorem Inv.tuple_inj (I : Inv X pins σ H s) (h : SqT X.K H a xs) (h' : SqT X.K H a ys) : xs = ys := by
  obtain ⟨its, r, ⟨o, e, _, n, d⟩, _⟩ := I.tuple h
  obtain ⟨its', r', ⟨o', e', _, n', d'⟩, _⟩ := I.tuple h'
  rw [e] at e'; cases e'
  rw [d] at d'
  injection d' with d1 _
  have : its = its' := by simpa using congrArg Array.toList d1
  subst this
  exact r.inj r'
end

/-! ### another wish about exceptions -/
abbrev Cx.wish (X : Cx) (E : Value → Shared → Prop) : Cx := { X with xe := E }
/-- no exception leaves -/
abbrev Cx.nox (X : Cx) : Cx := X.wish fun _ _ => False
theorem Cx.Ok.wish {X : Cx} (ok : X.Ok) (E : Value → Shared → Prop) : (X.wish E).Ok :=
  ⟨ok.mod, ok.kind, ok.glob, ok.blt, ok.above, ok.inj, ok.has, ok.cab, ok.hd, ok.frames, ok.stk, ok.exf, ok.bs, ok.bsz, ok.noex, ok.exfs, ok.funs, ok.frf⟩
theorem Cx.Ok.unwish {X : Cx} {E : Value → Shared → Prop} (ok : (X.wish E).Ok) : X.Ok :=
  ⟨ok.mod, ok.kind, ok.glob, ok.blt, ok.above, ok.inj, ok.has, ok.cab, ok.hd, ok.frames, ok.stk, ok.exf, ok.bs, ok.bsz, ok.noex, ok.exfs, ok.funs, ok.frf⟩
section
variable {X : Cx} {pins : List (Addr × Obj)} {σ : St} {H : Hp} {s : Shared} {E : Value → Shared → Prop}
theorem Inv.wish (I : Inv X pins σ H s) (E : Value → Shared → Prop) : Inv (X.wish E) pins σ H s := ⟨I.ok.wish E, I.os, I.bare, I.base, I.loc, I.cell, I.free, I.freeC, I.pin, I.hok, I.len⟩
theorem Inv.unwish (I : Inv (X.wish E) pins σ H s) : Inv X pins σ H s := ⟨I.ok.unwish, I.os, I.bare, I.base, I.loc, I.cell, I.free, I.freeC, I.pin, I.hok, I.len⟩
theorem SP.unwish {D : Ends} {f : Flow} {s' : Shared} (h : SP (X.wish E) pins D f s') : SP X pins D f s' := by
  cases f with
  | next => obtain ⟨σ', H', I, q⟩ := h; exact ⟨σ', H', I.unwish, q⟩
  | brk => obtain ⟨σ', H', I, q⟩ := h; exact ⟨σ', H', I.unwish, q⟩
  | cont => obtain ⟨σ', H', I, q⟩ := h; exact ⟨σ', H', I.unwish, q⟩
  | ret u => obtain ⟨v, σ', H', I, r, q⟩ := h; exact ⟨v, σ', H', I.unwish, r, q⟩
theorem PSs.nox {st : List Stmt} {t : TS} (h : PSs X.nox st t) : PSs X st t := fun pins s σ H D I hw =>
  wpAny_mono (h pins s σ H D (I.wish _) hw) (fun _ _ q => q.unwish) fun _ _ z => False.elim z
end

/-! ### blocks and small statements -/
section
variable {X : Cx} {st : Stmt} {rest : List Stmt} {t u : TS} {e : Expr} {te : TE} {pos : Pos}
def tNext : TS := fun D σ H => D.nx σ H
def tSeq (t u : TS) : TS := fun D σ H => t { D with nx := u D } σ H
theorem pss_nil : PSs X [] tNext := fun _ _ σ H _ I h => wpAny_execs_nil ⟨σ, H, I, h⟩
theorem pss_cons (h1 : PS X st t) (h2 : PSs X rest u) : PSs X (st :: rest) (tSeq t u) := by
  intro pins s σ H D I h
  refine wpAny_execs_cons (thn (h1 pins s σ H { D with nx := u D } I h) fun f s1 q => ?_)
  cases f with
  | next =>
    obtain ⟨σ', H', I', q⟩ := q
    exact h2 pins s1 σ' H' D I' q
  | ret v => exact q
  | brk => exact q
  | cont => exact q
theorem pss_one (h1 : PS X st t) : PSs X [st] t := by
  intro pins s σ H D I h
  refine wpAny_execs_cons (thn (h1 pins s σ H D I h) fun f s1 q => ?_)
  cases f with
  | next => exact wpAny_execs_nil q
  | ret v => exact q
  | brk => exact q
  | cont => exact q
/-- in a def's body nothing is shown -/
theorem Inv.quiet {pins : List (Addr × Obj)} {σ : St} {H : Hp} {s : Shared} (I : Inv X pins σ H s) : interactive X.env = false := by simp [interactive, I.ok.kind]
/-- an expression whose value is dropped -/
def tDrop (te : TE) : TS := fun D σ H => te σ H fun _ H1 => D.nx σ H1
theorem ps_expr (he : PE X e te) (hs : swapsWith e none pos.line X.env = pure false := by rfl) : PS X (.Expr e pos) (tDrop te) := by
  intro pins s σ H D I h
  exact wpAny_Expr_any (thn (he pins s σ H _ I h) fun v s1 ⟨x, H1, I1, r1, q1⟩ => ⟨σ, H1, I1, q1⟩) I.quiet hs
def tRet (te : TE) : TS := fun D σ H => te σ H D.rt
theorem ps_ret (he : PE X e te) : PS X (.Return (some e) pos) (tRet te) := by
  intro pins s σ H D I h
  exact wpAny_Return_some (thn (he pins s σ H _ I h) fun v s1 ⟨x, H1, I1, r1, q1⟩ => ⟨x, σ, H1, I1, r1, q1⟩)
def tIfS (c : TT) (t u : TS) : TS := fun D σ H => c σ H fun b H1 => if b = true then t D σ H1 else u D σ H1
theorem ps_if {c : Expr} {a b : List Stmt} {tc : TT} (hc : PT X c tc) (ha : PSs X a t) (hb : PSs X b u) : PS X (.If c a b pos) (tIfS tc t u) := by
  intro pins s σ H D I h
  refine wpAny_If (thn (hc pins s σ H _ I h) fun d s1 ⟨H1, I1, q1⟩ => ?_)
  cases d with
  | true => exact ha pins s1 σ H1 D I1 q1
  | false => exact hb pins s1 σ H1 D I1 q1
/-- code that the proof never comes to -/
def tNever : TS := fun _ _ _ => False
theorem ps_never : PS X st tNever := fun _ _ _ _ _ _ h => h.elim
end

/-! ### targets -/
abbrev TG := V → St → Hp → (St → Hp → Prop) → Prop
abbrev TGs := List V → St → Hp → (St → Hp → Prop) → Prop
def PG (X : Cx) (target : Expr) (t : TG) : Prop :=
  ∀ (pins : List (Addr × Obj)) (s : Shared) (σ : St) (H : Hp) (v : V) (u : Value) (Q : St → Hp → Prop), Inv X pins σ H s → RelV v u → t v σ H Q →
    wpAny (model X.prog X.w) X.A (assign target X.env u) (fun _ s' => ∃ σ' H', Inv X pins σ' H' s' ∧ Q σ' H') X.xe s
/-- several targets, one after another -/
def PGs (X : Cx) (ts : List Expr) (t : TGs) : Prop :=
  ∀ (pins : List (Addr × Obj)) (s : Shared) (σ : St) (H : Hp) (vs : List V) (us : List Value) (Q : St → Hp → Prop), Inv X pins σ H s → Vals vs us → t vs σ H Q →
    wpAny (model X.prog X.w) X.A (assignInOrder ((assignEach ts X.env).map (·.2)) us) (fun _ s' => ∃ σ' H', Inv X pins σ' H' s' ∧ Q σ' H') X.xe s
/-- o[i] = v, by values -/
abbrev TSet := V → V → V → Hp → (Hp → Prop) → Prop
def PSet (X : Cx) (t : TSet) : Prop :=
  ∀ (pins : List (Addr × Obj)) (s : Shared) (σ : St) (H : Hp) (o i v : V) (ov iv u : Value) (Q : Hp → Prop), Inv X pins σ H s → RelV o ov → RelV i iv → RelV v u → t o i v H Q →
    wpAny (model X.prog X.w) X.A (setItem ov iv u) (fun _ s' => ∃ H', Inv X pins σ H' s' ∧ Q H') X.xe s
section
variable {X : Cx} {pos : Pos}
def gName (i : Nat) : TG := fun v σ H Q => Q (σ.set i (some v)) H
theorem pg_name {i : Nat} {x : Str} (hN : X.N.Nodup) (hi : X.N[i]? = some x) (hx : Loc X.env.scope x) (hf : X.fn x = true ∨ X.env.scope.names.lookup x = some .local := by first | exact .inl rfl | exact .inr rfl | assumption) : PG X (.Name x pos) (gName i) := by
  intro pins s σ H v u Q I r h
  exact wpAny_assign_Name (store_ok I hN hi hx r (fun s' I' => ⟨_, H, I', h⟩) hf)
def gNil : TGs := fun vs σ H Q => vs = [] ∧ Q σ H
def gCons (t : TG) (u : TGs) : TGs := fun vs σ H Q => ∃ v r, vs = v :: r ∧ t v σ H fun σ' H' => u r σ' H' Q
theorem pgs_nil : PGs X [] gNil := by
  intro pins s σ H vs us Q I r h
  obtain ⟨e, h⟩ := h
  subst e
  cases r
  exact assignInOrder_nil ⟨σ, H, I, h⟩
theorem pgs_cons {e : Expr} {es : List Expr} {t : TG} {u : TGs} (h1 : PG X e t) (h2 : PGs X es u)
    (hs : (assignEach (e :: es) X.env).map (·.2) = assign e X.env :: (assignEach es X.env).map (·.2) := by rfl) : PGs X (e :: es) (gCons t u) := by
  intro pins s σ H vs us Q I r h
  obtain ⟨v, vr, e1, h⟩ := h
  subst e1
  cases r with
  | cons r rr =>
    rw [hs]
    refine assignInOrder_cons (thn (h1 pins s σ H _ _ _ I r h) fun _ s1 ⟨σ1, H1, I1, q1⟩ => ?_)
    exact h2 pins s1 σ1 H1 _ _ Q I1 rr q1
/-- (a, b, ..) = a tuple of that length -/
def gTup (K : PySem.W.Frag) (n : Nat) (t : TGs) : TG := fun v σ H Q => ∃ a xs, v = .ref a ∧ SqT K H a xs ∧ xs.length = n ∧ t xs σ H Q
theorem pg_tup {es : List Expr} {k : Nat} {t : TGs} {n : Nat} (hc : X.calm = true) (h : PGs X es t)
    (hn : (assignEach es X.env).length = n := by rfl) (hst : (assignEach es X.env).findIdx? (·.1) = none := by rfl) : PG X (.Tuple es k pos) (gTup X.K n t) := by
  intro pins s σ H v u Q I r hw
  obtain ⟨a, xs, e1, hq, hl, hw⟩ := hw
  subst e1
  cases r
  obtain ⟨its, rv, ht, hz⟩ := I.tuple hq
  refine assign_Tuple_tuple (I.ok.hd hc) ht (by simp [hn, ← hl, rv.length]) hst fun h' hx => ?_
  have I1 : Inv X pins σ H { s with heap := h' } := I.kept (t' := s.toks) fun b o e => hx b o (Nat.ne_of_lt (Heap.lt_size e)) e
  exact h pins _ σ H xs _ Q I1 (by simpa using rv) hw
/-- o[i] = .. -/
def gSub (to ti : TE) (t : TSet) : TG := fun v σ H Q => to σ H fun o H1 => ti σ H1 fun i H2 => t o i v H2 fun H3 => Q σ H3
theorem pg_sub {o i : Expr} {to ti : TE} {t : TSet} (ho : PE X o to) (hi : PE X i ti) (hs : PSet X t)
    (ha : ∀ v, assign (.Subscript o i pos) X.env v = (do
      let ov ← holding [v] (eval o X.env)
      let iv ← holding [v, ov] (eval i X.env)
      standAt pos
      holding [v, ov, iv] (setItem ov iv v)
      release [v, ov, iv] []) := by intro _; rfl) : PG X (.Subscript o i pos) (gSub to ti t) := by
  intro pins s σ H v u Q I r h
  rw [ha]
  refine wpAny_bind (wpAny_holding (thn (ho pins s σ H _ I h) fun ov s1 ⟨x, H1, I1, r1, q1⟩ => ?_))
  refine wpAny_bind (wpAny_holding (thn (hi pins s1 σ H1 _ I1 q1) fun iv s2 ⟨y, H2, I2, r2, q2⟩ => ?_))
  refine wpAny_bind (wpAny_standAt (wpAny_bind (wpAny_holding (thn (hs pins s2 σ H2 x y v ov iv u _ I2 r1 r2 r q2) fun _ s3 ⟨H3, I3, q3⟩ => ?_))))
  exact wpAny_release ⟨σ, H3, I3, q3⟩
/-- target = value -/
def tAsg (te : TE) (g : TG) : TS := fun D σ H => te σ H fun x H1 => g x σ H1 D.nx
theorem ps_asg {tg e : Expr} {te : TE} {g : TG} (he : PE X e te) (hg : PG X tg g) (hs : swapsWithSole [tg] e pos.line X.env = pure false := by rfl) (hw : swappedStores [tg] e X.env = pure none := by rfl)
    (h1 : (assignEach [tg] X.env).map (·.2) = [assign tg X.env] := by rfl) : PS X (.Assign [tg] e pos) (tAsg te g) := by
  intro pins s σ H D I h
  refine wpAny_Assign_stores (thn (he pins s σ H _ I h) fun v s1 ⟨x, H1, I1, r1, q1⟩ => ?_) hs hw
  rw [h1]
  exact thn (hg pins s1 σ H1 x v _ I1 r1 q1) fun _ s2 q => q
/-- name = value -/
theorem ps_set {i : Nat} {x : Str} {e : Expr} {te : TE} {pos' : Pos} (hN : X.N.Nodup) (hi : X.N[i]? = some x) (hx : Loc X.env.scope x) (he : PE X e te) (hs : swapsWith e (some (.Name x pos')) pos.line X.env = pure false := by rfl) (hf : X.fn x = true ∨ X.env.scope.names.lookup x = some .local := by first | exact .inl rfl | exact .inr rfl | assumption) :
    PS X (.Assign [.Name x pos'] e pos) (tAsg te (gName i)) := by
  intro pins s σ H D I h
  refine wpAny_Assign_Name (thn (he pins s σ H _ I h) fun v s1 ⟨y, H1, I1, r1, q1⟩ => ?_) hs
  exact store_ok I1 hN hi hx r1 (fun s2 I2 => ⟨_, H1, I2, q1⟩) hf
end

/-! ### while -/
section
variable {X : Cx} {pos : Pos}
/-- the invariant W with its measure -/
def tWhile (c : TT) (tb : TS) : TS := fun D σ H => ∃ W : Nat → St → Hp → Prop, (∃ m, W m σ H) ∧ ∀ m σ H, W m σ H →
  c σ H fun b H1 => if b = true then ∃ N : St → Hp → Prop, (∀ σ' H', N σ' H' → ∃ m', m' < m ∧ W m' σ' H') ∧ tb { D with nx := N, ct := N, bk := D.nx } σ H1 else D.nx σ H1
theorem ps_while {c : Expr} {body : List Stmt} {tc : TT} {tb : TS} (hp : PassesOwn (model X.prog X.w) X.A X.env X.xe) (hc : PT X c tc) (hb : PSs X body tb) : PS X (.While c body [] pos) (tWhile tc tb) := by
  intro pins s σ H D I h
  obtain ⟨W, ⟨m0, w0⟩, turn⟩ := h
  refine wpAny_While (codeAny_whileLoop (fun n s' => ∃ σ' H', Inv X pins σ' H' s' ∧ W n σ' H') ?_ m0 ⟨σ, H, I, w0⟩)
  rintro n s1 ⟨σ1, H1, I1, w1⟩
  refine wpAny_passesOwn hp (thn (hc pins s1 σ1 H1 _ I1 (turn n σ1 H1 w1)) fun b s2 ⟨H2, I2, q2⟩ => ?_)
  cases b with
  | true =>
    obtain ⟨N, hN, q2⟩ := q2
    rw [if_pos rfl]
    refine wpAny_passesOwn hp (thn (hb pins s2 σ1 H2 _ I2 q2) fun f s3 q3 => ?_)
    cases f with
    | next =>
      obtain ⟨σ3, H3, I3, n3⟩ := q3
      obtain ⟨m', hm, w3⟩ := hN σ3 H3 n3
      exact ⟨m', hm, σ3, H3, I3, w3⟩
    | cont =>
      obtain ⟨σ3, H3, I3, n3⟩ := q3
      obtain ⟨m', hm, w3⟩ := hN σ3 H3 n3
      exact ⟨m', hm, σ3, H3, I3, w3⟩
    | brk => exact q3
    | ret v => exact q3
  | false =>
    rw [if_neg Bool.false_ne_true]
    exact wpAny_execs_nil ⟨σ1, H2, I2, q2⟩
end

/-! ### what a loop or a comprehension walks -/
/-- at turn i: it yields x (the heap may grow), or it stops -/
structure It where
  go : Nat → Hp → Prop
  yld : Nat → Hp → V → Hp → Prop
  stop : Nat → Hp → Prop
/-- the iterator's own objects may turn: they are not the frame's, not pinned, younger than the entry (or a comprehension's own) -/
def FpOk (X : Cx) (pins : List (Addr × Obj)) (H : Hp) (b : Addr) : Prop :=
  H b = none ∧ b ≠ X.env.locals ∧ b ∉ X.fs ∧ (b ∈ X.ex ∨ X.s₀.heap.objs.size ≤ b) ∧ (∀ x c, X.env.cells.lookup x = some c → c ≠ b) ∧ ∀ p ∈ X.pn ++ pins, p.1 ≠ b
theorem Inv.fpOk {X : Cx} {pins : List (Addr × Obj)} {σ : St} {H H' : Hp} {s : Shared} {b : Addr} (I : Inv X pins σ H s) (hb : s.heap.objs.size ≤ b) (hn : H' b = none) : FpOk X pins H' b := by
  refine ⟨hn, Nat.ne_of_gt (Nat.lt_of_lt_of_le I.lt hb), I.nofs hb, .inr (Nat.le_trans I.sz hb), fun x c e z => ?_, fun p hp z => ?_⟩
  · obtain ⟨v, q⟩ := I.cell x c e
    exact absurd (Nat.lt_of_lt_of_le q.lt (by rw [z]; exact hb)) (Nat.lt_irrefl _)
  · exact absurd (Nat.lt_of_lt_of_le (Heap.lt_size (I.pin p hp).1) (by rw [z]; exact hb)) (Nat.lt_irrefl _)
structure Turn (P : Program) (w : World) (K : PySem.W.Frag) (tg : Expr) (J : It) (fp : List Addr) (it : Addr) (tn : Nat → Heap → Prop) : Prop where
  mem : it ∈ fp
  obj : ∀ i h, tn i h → ∀ b ∈ fp, ∃ o, h.get? b = some o ∧ ∀ v, o.data ≠ .cell v
  keep : ∀ i h h', tn i h → (∀ b ∈ fp, ∀ o, h.get? b = some o → h'.get? b = some o) → tn i h'
  item : ∀ (X : Cx), X.prog = P → X.w = w → X.K = K → X.calm = true → ∀ (i : Nat) (pins : List (Addr × Obj)) (s : Shared) (σ : St) (H : Hp) (E : Value → Shared → Prop), Inv X pins σ H s → (∀ b ∈ fp, FpOk X pins H b) → tn i s.heap → J.go i H →
    wpAny (model P w) X.A (pyNext (.ref it)) (fun r s1 => ∃ u, r = some u ∧
      wpAny (model P w) X.A (letOwnedTupleGo tg (.ref it) u) (fun _ s2 => ∃ x H', Inv X pins σ H' s2 ∧ RelV x u ∧ J.yld i H x H' ∧ tn (i + 1) s2.heap ∧ ∀ b ∈ fp, H' b = none) E s1) E s
  done : ∀ (X : Cx), X.prog = P → X.w = w → X.K = K → X.calm = true → ∀ (i : Nat) (pins : List (Addr × Obj)) (s : Shared) (σ : St) (H : Hp) (E : Value → Shared → Prop), Inv X pins σ H s → (∀ b ∈ fp, FpOk X pins H b) → tn i s.heap → J.stop i H →
    wpAny (model P w) X.A (pyNext (.ref it)) (fun r s1 => r = none ∧ Inv X pins σ H s1) E s
  self : ∀ (A : Around) (i : Nat) (s : Shared) (Q : Value → Shared → Prop) (E : Value → Shared → Prop), tn i s.heap → Q (.ref it) s → wpAny (model P w) A (pyIter (.ref it)) Q E s
abbrev TI := St → Hp → (It → Hp → Prop) → Prop
/-- an iterator has come -/
def PIE (X : Cx) (pins : List (Addr × Obj)) (σ : St) (tg : Expr) (R : It → Hp → Prop) (itv : Value) (s2 : Shared) : Prop :=
  ∃ (it : Addr) (fp : List Addr) (tn : Nat → Heap → Prop) (J : It) (H' : Hp), itv = .ref it ∧ Inv X pins σ H' s2 ∧ Turn X.prog X.w X.K tg J fp it tn ∧ tn 0 s2.heap ∧ (∀ b ∈ fp, FpOk X pins H' b) ∧ R J H'
def PI (X : Cx) (tg iter : Expr) (wi : TI) : Prop :=
  ∀ (pins : List (Addr × Obj)) (s : Shared) (σ : St) (H : Hp) (R : It → Hp → Prop), Inv X pins σ H s → wi σ H R →
    wpAny (model X.prog X.w) X.A (eval iter X.env) (fun v s1 => wpAny (model X.prog X.w) X.A (pyIter v) (PIE X pins σ tg R) X.xe s1) X.xe s

/-- the step ahead of the store is nothing for an iterator that keeps no tuple -/
theorem go_of {M : Model} {A : Around} {E : Value → Shared → Prop} {s : Shared} {tg : Expr} {it : Addr} {u : Value} {o : Obj} {n : String} {vs : Array Value} {Q : Unit → Shared → Prop} (ho : s.heap.get? it = some o) (hc : o.cls = .type n) (hd : o.data = .fields vs)
    (hn : ["enumerate", "zip", "dict_itemiterator", "dict_reverseitemiterator", "odict_iterator", "itertools.zip_longest", "itertools.pairwise"].contains n = false) (hQ : Q () s) : wpAny M A (letOwnedTupleGo tg (.ref it) u) Q E s := by
  unfold letOwnedTupleGo
  cases tg <;> first
    | exact wpAny_pure hQ
    | (cases u <;> first
        | exact wpAny_pure hQ
        | (refine wpAny_bind (wpAny_load ho ?_)
           rw [hc, hd]
           show wpAny M A (if (["enumerate", "zip", "dict_itemiterator", "dict_reverseitemiterator", "odict_iterator", "itertools.zip_longest", "itertools.pairwise"].contains n && vs[0]? == some (rawInt _)) = true then _ else _) Q E s
           rw [if_neg (by intro h; rw [hn, Bool.false_and] at h; cases h)]
           exact wpAny_pure hQ))

/-- the list at a, as it stands at each turn (a loop may append to it) -/
def Itl (K : PySem.W.Frag) (a : Addr) : It :=
  ⟨fun i H => ∃ xs x, SqL K H a xs ∧ xs[i]? = some x, fun i H x H' => H' = H ∧ ∀ xs, SqL K H a xs → xs[i]? = some x, fun i H => ∃ xs, SqL K H a xs ∧ xs.length ≤ i⟩
def Itt (K : PySem.W.Frag) (a : Addr) : It :=
  ⟨fun i H => ∃ xs x, SqT K H a xs ∧ xs[i]? = some x, fun i H x H' => H' = H ∧ ∀ xs, SqT K H a xs → xs[i]? = some x, fun i H => ∃ xs, SqT K H a xs ∧ xs.length ≤ i⟩
/-- lo, lo + 1, .. (n of them) -/
def Itr (lo : Int) (n : Nat) : It := ⟨fun i _ => i < n, fun i H x H' => H' = H ∧ x = .int (lo + i), fun i _ => n ≤ i⟩
theorem turn_list {P : Program} {w : World} {K : PySem.W.Frag} {tg : Expr} (a it : Addr) : Turn P w K tg (Itl K a) [it] it (fun i h => h.IsListIter it a i) where
  mem := by simp
  obj := fun i h st b hb => by
    have e : b = it := by simpa using hb
    subst e
    obtain ⟨o, e, c, d⟩ := st
    exact ⟨o, e, fun v z => by rw [d] at z; cases z⟩
  keep := fun i h h' st k => st.at fun o e => k it (by simp) o e
  item := by
    intro X hP hw hK hc i pins s σ H E I hf st hg
    subst hP hw hK
    obtain ⟨xs, x, hq, hx⟩ := hg
    obtain ⟨its, rv, p, hz⟩ := I.list hq
    obtain ⟨u, hu, ru⟩ := rv.get hx
    obtain ⟨f0, f1, f2, f3, f4, f5⟩ := hf it (by simp)
    refine wpAny_pyNext_list_item st p.isList (x := u) (by simpa using hu) fun h' st' sb => ?_
    have I1 : Inv X pins σ H { s with heap := h' } := I.turned (t' := s.toks) (fun b o hb e => (sb.2 b hb).trans e) f0 f1 f3 f4 f5
    obtain ⟨o, e, c, d⟩ := id st'
    exact ⟨u, rfl, go_of (s := { s with heap := h' }) e c d (by decide) ⟨x, H, I1, ru, ⟨rfl, fun ys hy => by rw [I.list_inj hy hq]; exact hx⟩, st', fun b hb => (hf b hb).1⟩⟩
  done := by
    intro X hP hw hK hc i pins s σ H E I hf st hg
    subst hP hw hK
    obtain ⟨xs, hq, hx⟩ := hg
    obtain ⟨its, rv, p, hz⟩ := I.list hq
    obtain ⟨f0, f1, f2, f3, f4, f5⟩ := hf it (by simp)
    have hl := rv.length
    exact wpAny_pyNext_list_end (I.ok.hd hc) st p.isList (by simp; omega) fun h' eb => ⟨rfl, I.turned (t' := s.toks) (fun b o hb e => eb b o hb e) f0 f1 f3 f4 f5⟩
  self := fun _ _ _ _ _ st h => wpAny_pyIter_listiter st h
theorem turn_tuple {P : Program} {w : World} {K : PySem.W.Frag} {tg : Expr} (a it : Addr) : Turn P w K tg (Itt K a) [it] it (fun i h => h.IsTupleIter it a i) where
  mem := by simp
  obj := fun i h st b hb => by
    have e : b = it := by simpa using hb
    subst e
    obtain ⟨o, e, c, d⟩ := st
    exact ⟨o, e, fun v z => by rw [d] at z; cases z⟩
  keep := fun i h h' st k => st.at fun o e => k it (by simp) o e
  item := by
    intro X hP hw hK hc i pins s σ H E I hf st hg
    subst hP hw hK
    obtain ⟨xs, x, hq, hx⟩ := hg
    obtain ⟨its, rv, p, hz⟩ := I.tuple hq
    obtain ⟨u, hu, ru⟩ := rv.get hx
    obtain ⟨f0, f1, f2, f3, f4, f5⟩ := hf it (by simp)
    refine wpAny_pyNext_tuple_item st (show s.heap.IsTuple a its.toArray from p) (x := u) (by simpa using hu) fun h' st' sb => ?_
    have I1 : Inv X pins σ H { s with heap := h' } := I.turned (t' := s.toks) (fun b o hb e => (sb.2 b hb).trans e) f0 f1 f3 f4 f5
    obtain ⟨o, e, c, d⟩ := id st'
    exact ⟨u, rfl, go_of (s := { s with heap := h' }) e c d (by decide) ⟨x, H, I1, ru, ⟨rfl, fun ys hy => by rw [I.tuple_inj hy hq]; exact hx⟩, st', fun b hb => (hf b hb).1⟩⟩
  done := by
    intro X hP hw hK hc i pins s σ H E I hf st hg
    subst hP hw hK
    obtain ⟨xs, hq, hx⟩ := hg
    obtain ⟨its, rv, p, hz⟩ := I.tuple hq
    obtain ⟨f0, f1, f2, f3, f4, f5⟩ := hf it (by simp)
    have hl := rv.length
    exact wpAny_pyNext_tuple_end (I.ok.hd hc) st (show s.heap.IsTuple a its.toArray from p) (by simp; omega) fun h' eb => ⟨rfl, I.turned (t' := s.toks) (fun b o hb e => eb b o hb e) f0 f1 f3 f4 f5⟩
  self := fun _ _ _ _ _ st h => wpAny_pyIter_tupleiter st h
theorem turn_range {P : Program} {w : World} {K : PySem.W.Frag} {tg : Expr} (it : Addr) (lo : Int) (n : Nat) : Turn P w K tg (Itr lo n) [it] it (fun i h => IsRangeIter h it (lo + (i : Nat) * 1) ((n : Int) - (i : Nat)) 1) where
  mem := by simp
  obj := fun i h st b hb => by
    have e : b = it := by simpa using hb
    subst e
    exact ⟨_, st, fun v z => by
      have z' : Data.fields _ = Data.cell v := z
      cases z'⟩
  keep := fun i h h' st k => k it (by simp) _ st
  item := by
    intro X hP hw hK hc i pins s σ H E I hf st hg
    subst hP hw hK
    obtain ⟨f0, f1, f2, f3, f4, f5⟩ := hf it (by simp)
    have W := Walks.range (prog := X.prog) (w := X.w) (I.ok.hd hc) it lo 1 n
    refine W.item i s _ _ hg st fun v h' tk hv st' kk => ?_
    obtain ⟨t, rfl⟩ := hv
    have I1 : Inv X pins σ H { s with heap := h', toks := tk } := I.turned (fun b o hb e => kk b o (by simpa using hb) e) f0 f1 f3 f4 f5
    refine ⟨_, rfl, go_of (s := { s with heap := h', toks := tk }) (n := "range_iterator") st' rfl rfl (by decide) ⟨.int (lo + i), H, I1, ⟨t, ?_⟩, ⟨rfl, rfl⟩, st', fun b hb => (hf b hb).1⟩⟩
    rw [Int.mul_one]
  done := by
    intro X hP hw hK hc i pins s σ H E I hf st hg
    subst hP hw hK
    obtain ⟨f0, f1, f2, f3, f4, f5⟩ := hf it (by simp)
    exact wpAny_pyNext_range_end (I.ok.hd hc) st (by have : n ≤ i := hg; omega) fun h' eb => ⟨rfl, I.turned (t' := s.toks) (fun b o hb e => eb b o hb e) f0 f1 f3 f4 f5⟩
  self := fun _ _ _ _ _ st h => wpAny_pyIter_rangeiter st h
end L2

namespace L2
open PySem PySem.Spec PyProof.Rows
section
variable {X : Cx} {tg : Expr}
def iList (K : PySem.W.Frag) (tl : TE) : TI := fun σ H R => tl σ H fun x H1 => ∃ a, x = .ref a ∧ (∃ xs, SqL K H1 a xs) ∧ R (Itl K a) H1
theorem pi_list {l : Expr} {tl : TE} (hl : PE X l tl) : PI X tg l (iList X.K tl) := by
  intro pins s σ H R I h
  refine thn (hl pins s σ H _ I h) fun v s1 ⟨x, H1, I1, r1, q1⟩ => ?_
  obtain ⟨a, e, ⟨xs, hq⟩, q⟩ := q1
  subst e
  cases r1
  obtain ⟨its, rv, p, hz⟩ := I1.list hq
  refine wpAny_pyIter_list p.isList ?_
  refine ⟨s1.heap.objs.size, [s1.heap.objs.size], _, _, H1, rfl, I1.kept (t' := s1.toks) fun b o e => Heap.get?_push_of_some _ e, turn_list a _, ⟨_, Heap.get?_push_size _ rfl, rfl, rfl⟩, fun b hb => ?_, q⟩
  have e : b = s1.heap.objs.size := by simpa using hb
  subst e
  exact I1.fpOk (Nat.le_refl _) (I1.hok.fresh (Nat.le_refl _))
/-- a range object just made, walked -/
theorem range_it {pins : List (Addr × Obj)} {σ : St} {H : Hp} {s : Shared} {R : It → Hp → Prop} {E : Value → Shared → Prop} {lo hi : Int} {t u v : Tok} {tk : Nat} (I : Inv X pins σ H s) (h1 : -(2 ^ 62) ≤ lo) (h2 : lo < 2 ^ 62) (h3 : -(2 ^ 62) ≤ hi) (h4 : hi < 2 ^ 62)
    (q : R (Itr lo (hi - lo).toNat) H) : wpAny (model X.prog X.w) X.A (pyIter (.ref s.heap.objs.size)) (PIE X pins σ tg R) E { s with heap := s.heap.push { cls := .type "range", data := .fields #[.int lo t, .int hi u, .int 1 v] }, toks := tk } := by
  refine wpAny_pyIter_range (IsRange.new ..) (small_one h1 h2 h3 h4) ?_
  have I1 : Inv X pins σ H { s with heap := s.heap.push { cls := .type "range", data := .fields #[.int lo t, .int hi u, .int 1 v] }, toks := tk } := I.kept fun b o e => Heap.get?_push_of_some _ e
  refine ⟨(s.heap.push { cls := .type "range", data := .fields #[.int lo t, .int hi u, .int 1 v] }).objs.size, [(s.heap.push { cls := .type "range", data := .fields #[.int lo t, .int hi u, .int 1 v] }).objs.size], _, _, H, rfl,
    I1.kept (t' := tk) fun b o e => Heap.get?_push_of_some _ e, turn_range _ lo (hi - lo).toNat, ?_, fun b hb => ?_, q⟩
  · have e1 : lo + ((0 : Nat) : Int) * 1 = lo := by simp
    have e2 : (((hi - lo).toNat : Nat) : Int) - ((0 : Nat) : Int) = Builtin.Range.rangeSize lo hi 1 := by rw [rangeSize_one]; split <;> omega
    show IsRangeIter _ _ (lo + ((0 : Nat) : Int) * 1) ((((hi - lo).toNat : Nat) : Int) - ((0 : Nat) : Int)) 1
    rw [e1, e2]
    exact Heap.get?_push_size _ rfl
  · have e : b = (s.heap.push { cls := .type "range", data := .fields #[.int lo t, .int hi u, .int 1 v] }).objs.size := by simpa using hb
    subst e
    exact I1.fpOk (Nat.le_refl _) (I1.hok.fresh (Nat.le_refl _))
def iRng1 (ta : TA) : TI := fun σ H R => ta σ H fun vs H1 => ∃ j : Int, vs = [.int j] ∧ -(2 ^ 62) ≤ j ∧ j < 2 ^ 62 ∧ R (Itr 0 j.toNat) H1
theorem pi_range1 {a : Expr} {ta : TA} {p pos : Pos} (hg : Gl X "range") (hm : X.mg "range" = none) (ha : PA X [a] ta) (hs : starEach [a] X.env = [(false, eval a X.env)] := by rfl) : PI X tg (.Call (.Name "range" p) [a] [] pos) (iRng1 ta) := by
  intro pins s σ H R I h
  refine Call_ (ld_blt I hg hm boot_range (PyProof.Rows.callWith_type1 (thn (ha pos pins s σ H _ I h) fun us s1 ⟨vs, H1, I1, r1, q1⟩ => ?_) hs rfl))
  obtain ⟨j, e, q1, q2, q⟩ := q1
  subst e
  cases r1 with
  | cons r rr =>
    cases rr
    obtain ⟨t, rfl⟩ := r
    exact call_range_1 (range_it I1 (by omega) (by omega) q1 q2 (by simpa using q))
/-! ### for -/
/-- W: the invariant by the turn and a measure; N: what the body is to reach -/
def tFor (wi : TI) (g : TG) (tb : TS) : TS := fun D σ H => wi σ H fun J H1 => ∃ W : Nat → Nat → St → Hp → Prop, (∃ m, W 0 m σ H1) ∧ ∀ i m σ H, W i m σ H →
  (J.stop i H ∧ D.nx σ H) ∨ (J.go i H ∧ ∃ N : St → Hp → Prop, (∀ σ' H', N σ' H' → ∃ m', m' < m ∧ W (i + 1) m' σ' H') ∧ ∀ x H', J.yld i H x H' → g x σ H' fun σ2 H2 => tb { D with nx := N, ct := N, bk := D.nx } σ2 H2)
/-- the records at fp as they stand -/
def pinsAt (fp : List Addr) (h : Heap) : List (Addr × Obj) := fp.filterMap fun b => (h.get? b).map fun o => (b, o)
theorem mem_pinsAt {fp : List Addr} {h : Heap} {b : Addr} {o : Obj} (hb : b ∈ fp) (e : h.get? b = some o) : (b, o) ∈ pinsAt fp h := List.mem_filterMap.mpr ⟨b, hb, by rw [e]; rfl⟩
theorem of_pinsAt {fp : List Addr} {h : Heap} {p : Addr × Obj} (hp : p ∈ pinsAt fp h) : p.1 ∈ fp ∧ h.get? p.1 = some p.2 := by
  obtain ⟨b, hb, e⟩ := List.mem_filterMap.mp hp
  cases q : h.get? b with
  | none => rw [q] at e; cases e
  | some o =>
    rw [q] at e
    have e' : (b, o) = p := Option.some.inj e
    subst e'
    exact ⟨hb, q⟩
theorem Inv.pinned {pins : List (Addr × Obj)} {σ : St} {H : Hp} {s : Shared} {fp : List Addr} (I : Inv X pins σ H s) (hf : ∀ b ∈ fp, FpOk X pins H b) (ho : ∀ b ∈ fp, ∃ o, s.heap.get? b = some o ∧ ∀ v, o.data ≠ .cell v) : Inv X (pins ++ pinsAt fp s.heap) σ H s :=
  I.pins_of fun p hp => (List.mem_append.mp hp).elim (fun z => I.pin p (List.mem_append_right _ z)) fun z => by
    obtain ⟨hb, e⟩ := of_pinsAt z
    obtain ⟨f0, f1, f2, _⟩ := hf p.1 hb
    obtain ⟨o, e', d⟩ := ho p.1 hb
    rw [e] at e'; cases e'
    exact ⟨e, f0, f1, f2, d⟩
theorem Inv.unpinned {pins pl : List (Addr × Obj)} {σ : St} {H : Hp} {s : Shared} (I : Inv X (pins ++ pl) σ H s) : Inv X pins σ H s := I.pins_of fun p hp => I.pin p (List.mem_append_right _ (List.mem_append_left _ hp))
theorem ps_for {iter : Expr} {body : List Stmt} {wi : TI} {g : TG} {tb : TS} {pos : Pos} (hp : PassesOwn (model X.prog X.w) X.A X.env X.xe) (hc : X.calm = true) (hi : PI X tg iter wi) (hg : PG X tg g) (hb : PSs X body tb)
    (hs : ∀ x, foldedSetIterable iter X.env x = pure x := by intro _; rfl) : PS X (.For tg iter body [] pos) (tFor wi g tb) := by
  intro pins s σ H D I h
  refine wpAny_For (thn (hi pins s σ H _ I h) fun v s1 h1 => thn h1 fun itv s2 h2 => ?_) hs
  obtain ⟨it, fp, tn, J, H2, e, I2, T, st2, f2, W, ⟨m0, w0⟩, turn⟩ := h2
  subst e
  -- what stays true of the iterator's objects through the loop
  have stat : ∀ {H' : Hp}, (∀ b ∈ fp, H' b = none) → ∀ b ∈ fp, FpOk X pins H' b := fun hn b hb => ⟨hn b hb, (f2 b hb).2⟩
  refine codeAny_forLoop_any (fun n s' => ∃ i σ' H', Inv X pins σ' H' s' ∧ tn i s'.heap ∧ (∀ b ∈ fp, H' b = none) ∧ W i n σ' H') ?_ m0 ⟨0, σ, H2, I2, st2, fun b hb => (f2 b hb).1, w0⟩
  rintro n s3 ⟨i, σ3, H3, I3, st3, fr3, w3⟩
  rcases turn i n σ3 H3 w3 with ⟨stop, qn⟩ | ⟨go, N, hN, step⟩
  · refine wpAny_passesOwn hp (thn (T.done X rfl rfl rfl hc i pins s3 σ3 H3 X.xe I3 (stat fr3) st3 stop) fun r s4 ⟨hr, I4⟩ => ?_)
    subst hr
    exact wpAny_execs_nil ⟨σ3, H3, I4, qn⟩
  · refine wpAny_passesOwn hp (thn (T.item X rfl rfl rfl hc i pins s3 σ3 H3 X.xe I3 (stat fr3) st3 go) fun r s4 ⟨u, hr, h4⟩ => ?_)
    subst hr
    refine wpAny_passesOwn hp (thn h4 fun _ s5 ⟨x, H5, I5, r5, y5, st5, fr5⟩ => ?_)
    have I5' := I5.pinned (stat fr5) (T.obj _ _ st5)
    refine wpAny_passesOwn hp (thn (hg _ s5 σ3 H5 x u _ I5' r5 (step x H5 y5)) fun _ s6 ⟨σ6, H6, I6, q6⟩ => ?_)
    refine wpAny_passesOwn hp (thn (hb _ s6 σ6 H6 _ I6 q6) fun f s7 q7 => ?_)
    have again : ∀ {σ7 : St} {H7 : Hp}, Inv X (pins ++ pinsAt fp s5.heap) σ7 H7 s7 → N σ7 H7 → ∃ m, m < n ∧ ∃ i σ' H', Inv X pins σ' H' s7 ∧ tn i s7.heap ∧ (∀ b ∈ fp, H' b = none) ∧ W i m σ' H' := fun {σ7 H7} I7 n7 => by
      obtain ⟨m', hm, w7⟩ := hN σ7 H7 n7
      refine ⟨m', hm, i + 1, σ7, H7, I7.unpinned, T.keep _ _ _ st5 fun b hb o e => (I7.pin (b, o) (List.mem_append_right _ (List.mem_append_right _ (mem_pinsAt hb e)))).1, fun b hb => ?_, w7⟩
      obtain ⟨o, e, d⟩ := T.obj _ _ st5 b hb
      exact (I7.pin (b, o) (List.mem_append_right _ (List.mem_append_right _ (mem_pinsAt hb e)))).2.1
    cases f with
    | next => obtain ⟨σ7, H7, I7, n7⟩ := q7; exact again I7 n7
    | cont => obtain ⟨σ7, H7, I7, n7⟩ := q7; exact again I7 n7
    | brk => obtain ⟨σ7, H7, I7, q7⟩ := q7; exact ⟨σ7, H7, I7.unpinned, q7⟩
    | ret v => obtain ⟨x7, σ7, H7, I7, r7, q7⟩ := q7; exact ⟨x7, σ7, H7, I7.unpinned, r7, q7⟩
end

/-! ### the forms one uses -/
/-- over a list that the body leaves as it is -/
theorem for_list {K : PySem.W.Frag} {a : Addr} {xs : List V} {g : TG} {tb : TS} {D : Ends} {σ : St} {H : Hp} (Pv : Nat → St → Hp → Prop) (h0 : Pv 0 σ H) (hl : ∀ i σ H, i ≤ xs.length → Pv i σ H → SqL K H a xs)
    (hs : ∀ i x σ H, xs[i]? = some x → Pv i σ H → g x σ H fun σ2 H2 => tb { D with nx := Pv (i + 1), ct := Pv (i + 1), bk := D.nx } σ2 H2) (hd : ∀ σ H, Pv xs.length σ H → D.nx σ H) :
    ∃ W : Nat → Nat → St → Hp → Prop, (∃ m, W 0 m σ H) ∧ ∀ i m σ H, W i m σ H →
      ((Itl K a).stop i H ∧ D.nx σ H) ∨ ((Itl K a).go i H ∧ ∃ N : St → Hp → Prop, (∀ σ' H', N σ' H' → ∃ m', m' < m ∧ W (i + 1) m' σ' H') ∧ ∀ x H', (Itl K a).yld i H x H' → g x σ H' fun σ2 H2 => tb { D with nx := N, ct := N, bk := D.nx } σ2 H2) := by
  refine ⟨fun i m σ H => m = xs.length - i ∧ i ≤ xs.length ∧ Pv i σ H, ⟨xs.length, by simp, Nat.zero_le _, h0⟩, ?_⟩
  rintro i m σ H ⟨rfl, hi, p⟩
  have q := hl i σ H hi p
  by_cases hlt : i < xs.length
  · refine .inr ⟨⟨xs, xs[i], q, by simp [hlt]⟩, Pv (i + 1), fun σ' H' p' => ⟨xs.length - (i + 1), by omega, rfl, hlt, p'⟩, fun x H' y => ?_⟩
    obtain ⟨e, y⟩ := y
    subst e
    exact hs i x σ _ (y xs q) p
  · have e : i = xs.length := by omega
    subst e
    exact .inl ⟨⟨xs, q, Nat.le_refl _⟩, hd σ H p⟩
theorem for_tup {K : PySem.W.Frag} {a : Addr} {xs : List V} {g : TG} {tb : TS} {D : Ends} {σ : St} {H : Hp} (Pv : Nat → St → Hp → Prop) (h0 : Pv 0 σ H) (hl : ∀ i σ H, i ≤ xs.length → Pv i σ H → SqT K H a xs)
    (hs : ∀ i x σ H, xs[i]? = some x → Pv i σ H → g x σ H fun σ2 H2 => tb { D with nx := Pv (i + 1), ct := Pv (i + 1), bk := D.nx } σ2 H2) (hd : ∀ σ H, Pv xs.length σ H → D.nx σ H) :
    ∃ W : Nat → Nat → St → Hp → Prop, (∃ m, W 0 m σ H) ∧ ∀ i m σ H, W i m σ H →
      ((Itt K a).stop i H ∧ D.nx σ H) ∨ ((Itt K a).go i H ∧ ∃ N : St → Hp → Prop, (∀ σ' H', N σ' H' → ∃ m', m' < m ∧ W (i + 1) m' σ' H') ∧ ∀ x H', (Itt K a).yld i H x H' → g x σ H' fun σ2 H2 => tb { D with nx := N, ct := N, bk := D.nx } σ2 H2) := by
  refine ⟨fun i m σ H => m = xs.length - i ∧ i ≤ xs.length ∧ Pv i σ H, ⟨xs.length, by simp, Nat.zero_le _, h0⟩, ?_⟩
  rintro i m σ H ⟨rfl, hi, p⟩
  have q := hl i σ H hi p
  by_cases hlt : i < xs.length
  · refine .inr ⟨⟨xs, xs[i], q, by simp [hlt]⟩, Pv (i + 1), fun σ' H' p' => ⟨xs.length - (i + 1), by omega, rfl, hlt, p'⟩, fun x H' y => ?_⟩
    obtain ⟨e, y⟩ := y
    subst e
    exact hs i x σ _ (y xs q) p
  · have e : i = xs.length := by omega
    subst e
    exact .inl ⟨⟨xs, q, Nat.le_refl _⟩, hd σ H p⟩
theorem for_range {lo : Int} {n : Nat} {g : TG} {tb : TS} {D : Ends} {σ : St} {H : Hp} (Pv : Nat → St → Hp → Prop) (h0 : Pv 0 σ H)
    (hs : ∀ i σ H, i < n → Pv i σ H → g (.int (lo + i)) σ H fun σ2 H2 => tb { D with nx := Pv (i + 1), ct := Pv (i + 1), bk := D.nx } σ2 H2) (hd : ∀ σ H, Pv n σ H → D.nx σ H) :
    ∃ W : Nat → Nat → St → Hp → Prop, (∃ m, W 0 m σ H) ∧ ∀ i m σ H, W i m σ H →
      ((Itr lo n).stop i H ∧ D.nx σ H) ∨ ((Itr lo n).go i H ∧ ∃ N : St → Hp → Prop, (∀ σ' H', N σ' H' → ∃ m', m' < m ∧ W (i + 1) m' σ' H') ∧ ∀ x H', (Itr lo n).yld i H x H' → g x σ H' fun σ2 H2 => tb { D with nx := N, ct := N, bk := D.nx } σ2 H2) := by
  refine ⟨fun i m σ H => m = n - i ∧ i ≤ n ∧ Pv i σ H, ⟨n, by simp, Nat.zero_le _, h0⟩, ?_⟩
  rintro i m σ H ⟨rfl, hi, p⟩
  by_cases hlt : i < n
  · refine .inr ⟨hlt, Pv (i + 1), fun σ' H' p' => ⟨n - (i + 1), by omega, rfl, hlt, p'⟩, fun x H' y => ?_⟩
    obtain ⟨e, y⟩ := y
    subst e y
    exact hs i σ _ hlt p
  · have e : i = n := by omega
    subst e
    exact .inl ⟨Nat.le_refl _, hd σ H p⟩
end L2

namespace L2
open PySem PySem.Spec PyProof.Rows

abbrev R2 := V → V → Hp → VK → Prop
/-- a two-place operation on values: f is binaryOp op, inplaceOp op or compareOp op -/
def OpR (X : Cx) (f : Value → Value → Sem Value) (r : R2) : Prop :=
  ∀ (pins : List (Addr × Obj)) (s : Shared) (σ : St) (H : Hp) (x y : V) (v u : Value) (Q : VK), Inv X pins σ H s → RelV x v → RelV y u → r x y H Q →
    wpAny (model X.prog X.w) X.A (f v u) (EP X pins σ Q) X.xe s
/-- a one-place operation -/
def UnR (X : Cx) (f : Value → Sem Value) (r : V → Hp → VK → Prop) : Prop :=
  ∀ (pins : List (Addr × Obj)) (s : Shared) (σ : St) (H : Hp) (x : V) (v : Value) (Q : VK), Inv X pins σ H s → RelV x v → r x H Q →
    wpAny (model X.prog X.w) X.A (f v) (EP X pins σ Q) X.xe s
/-- a call of a value that is known (a builtin, a type) with values -/
def CallR (X : Cx) (f : Value) (r : List V → Hp → VK → Prop) : Prop :=
  ∀ (pins : List (Addr × Obj)) (s : Shared) (σ : St) (H : Hp) (xs : List V) (us : List Value) (Q : VK), Inv X pins σ H s → Vals xs us → r xs H Q →
    wpAny (model X.prog X.w) X.A (call f us) (EP X pins σ Q) X.xe s
def tOp (r : R2) (ta tb : TE) : TE := fun σ H Q => ta σ H fun x H1 => tb σ H1 fun y H2 => r x y H2 Q
def tUn (r : V → Hp → VK → Prop) (ta : TE) : TE := fun σ H Q => ta σ H fun x H1 => r x H1 Q
/-- ints in, under C, and a value out -/
def rI (C : Int → Int → Prop) (g : Int → Int → V) : R2 := fun x y H Q => ∃ i j, x = .int i ∧ y = .int j ∧ C i j ∧ Q (g i j) H
def rI0 (g : Int → Int → V) : R2 := fun x y H Q => ∃ i j, x = .int i ∧ y = .int j ∧ Q (g i j) H
def rU (g : Int → V) : V → Hp → VK → Prop := fun x H Q => ∃ i, x = .int i ∧ Q (g i) H

section
variable {X : Cx} {a b c : Expr} {ta tb tc : TE} {pos : Pos}

theorem binT (ha : PE X a ta) (hb : PE X b tb) {pins : List (Addr × Obj)} {s : Shared} {σ : St} {H : Hp} {R : V → V → Hp → Prop} (I : Inv X pins σ H s)
    (h : ta σ H fun x H1 => tb σ H1 fun y H2 => R x y H2) {Q : Value → Shared → Prop} {f : Value → Value → Sem Value}
    (hf : ∀ v u s2 x y H2, Inv X pins σ H2 s2 → RelV x v → RelV y u → R x y H2 → wpAny (model X.prog X.w) X.A (f v u) Q X.xe s2) :
    wpAny (model X.prog X.w) X.A (eval a X.env) (fun v s₁ => wpAny (model X.prog X.w) X.A (eval b X.env) (fun u s₂ => wpAny (model X.prog X.w) X.A (f v u) Q X.xe s₂) X.xe s₁) X.xe s := by
  refine thn (ha pins s σ H _ I h) fun v s1 ⟨x, H1, I1, r1, q1⟩ => ?_
  refine thn (hb pins s1 σ H1 _ I1 q1) fun u s2 ⟨y, H2, I2, r2, q2⟩ => ?_
  exact hf v u s2 x y H2 I2 r1 r2 q2

theorem pe_op {op : Operator} {r : R2} (ho : OpR X (binaryOp op) r) (ha : PE X a ta) (hb : PE X b tb) : PE X (.BinOp a op b pos) (tOp r ta tb) := by
  intro pins s σ H Q I h
  exact wpAny_BinOp (binT ha hb I h fun v u s2 x y H2 I2 rx ry q => ho pins s2 σ H2 x y v u Q I2 rx ry q)
theorem pe_un {op : UnaryOp} {r : V → Hp → VK → Prop} (ho : UnR X (unaryOp op) r) (ha : PE X a ta) : PE X (.UnaryOp op a pos) (tUn r ta) := by
  intro pins s σ H Q I h
  exact UnaryOp_ (thn (ha pins s σ H _ I h) fun v s1 ⟨x, H1, I1, r1, q1⟩ => ho pins s1 σ H1 x v Q I1 r1 q1)
/-! ### ints -/
theorem opI {f : Value → Value → Sem Value} {C : Int → Int → Prop} {g : Int → Int → Int}
    (rule : ∀ (i j : Int) (t u : Tok) (s : Shared) (Q : Value → Shared → Prop) (E : Value → Shared → Prop), C i j → Q (.int (g i j) s.toks) { s with toks := s.toks + 1 } → wpAny (model X.prog X.w) X.A (f (.int i t) (.int j u)) Q E s) :
    OpR X f (rI C fun i j => .int (g i j)) := by
  intro pins s σ H x y v u Q I rx ry h
  obtain ⟨i, j, rfl, rfl, hc, q⟩ := h
  obtain ⟨t, rfl⟩ := rx
  obtain ⟨t', rfl⟩ := ry
  exact rule i j t t' s _ _ hc ⟨.int (g i j), H, I.tok _, ⟨_, rfl⟩, q⟩
theorem opI0 {f : Value → Value → Sem Value} {g : Int → Int → Int}
    (rule : ∀ (i j : Int) (t u : Tok) (s : Shared) (Q : Value → Shared → Prop) (E : Value → Shared → Prop), Q (.int (g i j) s.toks) { s with toks := s.toks + 1 } → wpAny (model X.prog X.w) X.A (f (.int i t) (.int j u)) Q E s) :
    OpR X f (rI0 fun i j => .int (g i j)) := by
  intro pins s σ H x y v u Q I rx ry h
  obtain ⟨i, j, rfl, rfl, q⟩ := h
  obtain ⟨t, rfl⟩ := rx
  obtain ⟨t', rfl⟩ := ry
  exact rule i j t t' s _ _ ⟨.int (g i j), H, I.tok _, ⟨_, rfl⟩, q⟩
theorem opB0 {f : Value → Value → Sem Value} {g : Int → Int → Bool}
    (rule : ∀ (i j : Int) (t u : Tok) (s : Shared) (Q : Value → Shared → Prop) (E : Value → Shared → Prop), Q (.bool (g i j)) s → wpAny (model X.prog X.w) X.A (f (.int i t) (.int j u)) Q E s) :
    OpR X f (rI0 fun i j => .bl (g i j)) := by
  intro pins s σ H x y v u Q I rx ry h
  obtain ⟨i, j, rfl, rfl, q⟩ := h
  obtain ⟨t, rfl⟩ := rx
  obtain ⟨t', rfl⟩ := ry
  exact rule i j t t' s _ _ ⟨.bl (g i j), H, I, rfl, q⟩

def CDiv (i j : Int) : Prop := 0 < j ∧ j < 1073741824
def CPow (i j : Int) : Prop := 0 ≤ j ∧ j ≤ 1000000 ∧ i.natAbs < 2 ^ 64
def CMul (i j : Int) : Prop := (-(2 ^ 64) < i ∧ i < 2 ^ 64) ∨ (-(2 ^ 64) < j ∧ j < 2 ^ 64)
theorem CMul.ok {i j : Int} (h : CMul i j) : IntMulOk i j := by
  rcases h with ⟨h1, h2⟩ | ⟨h1, h2⟩
  · exact .of_left (intBits_le_64 h1 h2)
  · exact .of_right (intBits_le_64 h1 h2)
theorem two_pow_nn (k : Nat) : (0 : Int) ≤ 2 ^ k := by
  rw [two_pow_cast]
  exact Int.natCast_nonneg _

theorem op_add : OpR X (binaryOp .Add) (rI0 fun i j => .int (i + j)) := opI0 fun _ _ _ _ _ _ _ q => add_int q
theorem op_sub : OpR X (binaryOp .Sub) (rI0 fun i j => .int (i - j)) := opI0 fun _ _ _ _ _ _ _ q => sub_int q
theorem op_mul : OpR X (binaryOp .Mult) (rI CMul fun i j => .int (i * j)) := opI fun _ _ _ _ _ _ _ hc q => mul_int q hc.ok
/-- // by a positive divisor -/
theorem op_fdiv : OpR X (binaryOp .FloorDiv) (rI CDiv fun i j => .int (i / j)) := opI fun i j _ _ _ _ _ hc q => by
  have h1 : (0 : Int) < j := hc.1
  have h2 : j < 1073741824 := hc.2
  exact floordiv_int (by omega) (by rw [Int.fdiv_eq_ediv_of_nonneg i (by omega)]; exact q) (.inl (PyProof.noPylong_small (by omega)))
/-- % by a positive divisor of any size -/
theorem op_mod : OpR X (binaryOp .Mod) (rI (fun _ j => 0 < j) fun i j => .int (i % j)) := opI fun i j _ _ _ _ _ hc q => by
  have h1 : (0 : Int) < j := hc
  exact mod_int' (by omega) (by rw [Int.fmod_eq_emod_of_nonneg i (by omega)]; exact q)
theorem op_pow : OpR X (binaryOp .Pow) (rI CPow fun i j => .int (i ^ j.toNat)) := opI fun _ _ _ _ _ _ _ hc q => pow_int_small hc.1 hc.2.1 hc.2.2 q
theorem op_shl : OpR X (binaryOp .LShift) (rI CPow fun i j => .int (i * 2 ^ j.toNat)) := opI fun _ _ _ _ _ _ _ hc q => lshift_int_small hc.1 hc.2.1 hc.2.2 q
theorem op_shr : OpR X (binaryOp .RShift) (rI (fun _ j => 0 ≤ j) fun i j => .int (i / 2 ^ j.toNat)) := opI fun i j _ _ _ _ _ hc q =>
  rshift_int hc (by rw [Int.fdiv_eq_ediv_of_nonneg i (two_pow_nn _)]; exact q)
theorem op_and : OpR X (binaryOp .BitAnd) (rI0 fun i j => .int (Builtin.bitAnd i j)) := opI0 fun _ _ _ _ _ _ _ q => and_int q
theorem op_xor : OpR X (binaryOp .BitXor) (rI0 fun i j => .int (Builtin.bitXor i j)) := opI0 fun _ _ _ _ _ _ _ q => xor_int q

theorem unI {f : Value → Sem Value} {g : Int → Int}
    (rule : ∀ (i : Int) (t : Tok) (s : Shared) (Q : Value → Shared → Prop) (E : Value → Shared → Prop), Q (.int (g i) s.toks) { s with toks := s.toks + 1 } → wpAny (model X.prog X.w) X.A (f (.int i t)) Q E s) :
    UnR X f (rU fun i => .int (g i)) := by
  intro pins s σ H x v Q I rx h
  obtain ⟨i, rfl, q⟩ := h
  obtain ⟨t, rfl⟩ := rx
  exact rule i t s _ _ ⟨.int (g i), H, I.tok _, ⟨_, rfl⟩, q⟩
theorem un_neg : UnR X (unaryOp .USub) (rU fun i => .int (-i)) := unI fun _ _ _ _ _ q => neg_int q
/-! ### bools among ints: n += (a < b) -/
end

/-! ### comparisons -/
/-- the scalars that == tells apart as data does -/
def scal : V → V → Bool
  | .non, .non => true | .non, .int _ => true | .int _, .non => true | .non, .bl _ => true | .bl _, .non => true | .non, .str _ => true | .str _, .non => true
  | .int _, .int _ => true | .bl _, .bl _ => true | .str _, .str _ => true | .byt _, .byt _ => true
  | .int _, .str _ => true | .str _, .int _ => true | .bl _, .str _ => true | .str _, .bl _ => true
  | _, _ => false
def rEq : R2 := fun x y H Q => scal x y = true ∧ Q (.bl (decide (x = y))) H
def rNe : R2 := fun x y H Q => scal x y = true ∧ Q (.bl (!decide (x = y))) H

theorem dec_int {i j : Int} : decide (V.int i = V.int j) = (i == j) := by
  rw [Bool.eq_iff_iff]
  simp
theorem dec_bl {i j : Bool} : decide (V.bl i = V.bl j) = (i == j) := by
  rw [Bool.eq_iff_iff]
  simp
theorem dec_str {i j : Str} : decide (V.str i = V.str j) = (i == j) := by
  rw [Bool.eq_iff_iff]
  simp
theorem dec_byt {i j : Array UInt8} : decide (V.byt i = V.byt j) = (i.toList == j.toList) := by
  rw [Bool.eq_iff_iff]
  cases i
  cases j
  simp

section
variable {X : Cx} {a b c : Expr} {ta tb tc : TE} {pos : Pos}
theorem fin_bl {pins : List (Addr × Obj)} {σ : St} {H : Hp} {s : Shared} {Q : VK} {k k' : Bool} (I : Inv X pins σ H s) (q : Q (.bl k) H) (e : k = k') : EP X pins σ Q (.bool k') s := by
  subst e
  exact ⟨.bl k, H, I, rfl, q⟩
theorem op_eq : OpR X (compareOp .Eq) rEq := by
  intro pins s σ H x y v u Q I rx ry h
  obtain ⟨hs, q⟩ := h
  cases x with
  | non =>
    cases rx
    cases y with
    | non => cases ry; exact PySem.EqNone.eq_none_none (fin_bl I q (by simp))
    | bl j => cases ry; exact PySem.EqNone.eq_none_bool (fin_bl I q (by simp))
    | int j => obtain ⟨t', rfl⟩ := ry; exact PySem.EqNone.eq_none_int (fin_bl I q (by simp))
    | str j => obtain ⟨t', rfl⟩ := ry; exact PySem.EqNone.eq_none_str (fin_bl I q (by simp))
    | _ => exact absurd (show false = true from hs) Bool.false_ne_true
  | bl i =>
    cases rx
    cases y with
    | non => cases ry; exact PySem.EqNone.eq_bool_none (fin_bl I q (by simp))
    | bl j => cases ry; exact eq_bool (fin_bl I q dec_bl)
    | str j => obtain ⟨t', rfl⟩ := ry; exact PySem.EqMixed.eq_bool_str (fin_bl I q (by simp))
    | _ => exact absurd (show false = true from hs) Bool.false_ne_true
  | int i =>
    obtain ⟨t, rfl⟩ := rx
    cases y with
    | non => cases ry; exact PySem.EqNone.eq_int_none (fin_bl I q (by simp))
    | int j => obtain ⟨t', rfl⟩ := ry; exact eq_int (fin_bl I q dec_int)
    | str j => obtain ⟨t', rfl⟩ := ry; exact PySem.EqMixed.eq_int_str (fin_bl I q (by simp))
    | _ => exact absurd (show false = true from hs) Bool.false_ne_true
  | str i =>
    obtain ⟨t, rfl⟩ := rx
    cases y with
    | non => cases ry; exact PySem.EqNone.eq_str_none (fin_bl I q (by simp))
    | bl j => cases ry; exact PySem.EqMixed.eq_str_bool (fin_bl I q (by simp))
    | int j => obtain ⟨t', rfl⟩ := ry; exact PySem.EqMixed.eq_str_int (fin_bl I q (by simp))
    | str j => obtain ⟨t', rfl⟩ := ry; exact eq_str (fin_bl I q dec_str)
    | _ => exact absurd (show false = true from hs) Bool.false_ne_true
  | byt i =>
    obtain ⟨t, rfl⟩ := rx
    cases y with
    | byt j => obtain ⟨t', rfl⟩ := ry; exact PySem.W.eq_bytes (fin_bl I q dec_byt)
    | _ => exact absurd (show false = true from hs) Bool.false_ne_true
  | _ => cases y <;> exact absurd (show false = true from hs) Bool.false_ne_true
theorem op_ne : OpR X (compareOp .NotEq) rNe := by
  intro pins s σ H x y v u Q I rx ry h
  obtain ⟨hs, q⟩ := h
  cases x with
  | non =>
    cases rx
    cases y with
    | non => cases ry; exact PySem.EqNone.ne_none_none (fin_bl I q (by simp))
    | bl j => cases ry; exact PySem.EqNone.ne_none_bool (fin_bl I q (by simp))
    | int j => obtain ⟨t', rfl⟩ := ry; exact PySem.EqNone.ne_none_int (fin_bl I q (by simp))
    | str j => obtain ⟨t', rfl⟩ := ry; exact PySem.EqNone.ne_none_str (fin_bl I q (by simp))
    | _ => exact absurd (show false = true from hs) Bool.false_ne_true
  | bl i =>
    cases rx
    cases y with
    | non => cases ry; exact PySem.EqNone.ne_bool_none (fin_bl I q (by simp))
    | bl j => cases ry; exact ne_bool (fin_bl I q (congrArg not dec_bl))
    | str j => obtain ⟨t', rfl⟩ := ry; exact PySem.EqMixed.ne_bool_str (fin_bl I q (by simp))
    | _ => exact absurd (show false = true from hs) Bool.false_ne_true
  | int i =>
    obtain ⟨t, rfl⟩ := rx
    cases y with
    | non => cases ry; exact PySem.EqNone.ne_int_none (fin_bl I q (by simp))
    | int j => obtain ⟨t', rfl⟩ := ry; exact ne_int (fin_bl I q (congrArg not dec_int))
    | str j => obtain ⟨t', rfl⟩ := ry; exact PySem.EqMixed.ne_int_str (fin_bl I q (by simp))
    | _ => exact absurd (show false = true from hs) Bool.false_ne_true
  | str i =>
    obtain ⟨t, rfl⟩ := rx
    cases y with
    | non => cases ry; exact PySem.EqNone.ne_str_none (fin_bl I q (by simp))
    | bl j => cases ry; exact PySem.EqMixed.ne_str_bool (fin_bl I q (by simp))
    | int j => obtain ⟨t', rfl⟩ := ry; exact PySem.EqMixed.ne_str_int (fin_bl I q (by simp))
    | str j => obtain ⟨t', rfl⟩ := ry; exact ne_str (fin_bl I q (congrArg not dec_str))
    | _ => exact absurd (show false = true from hs) Bool.false_ne_true
  | byt i =>
    obtain ⟨t, rfl⟩ := rx
    cases y with
    | byt j => obtain ⟨t', rfl⟩ := ry; exact PySem.W.ne_bytes (fin_bl I q (congrArg not dec_byt))
    | _ => exact absurd (show false = true from hs) Bool.false_ne_true
  | _ => cases y <;> exact absurd (show false = true from hs) Bool.false_ne_true

theorem op_lt : OpR X (compareOp .Lt) (rI0 fun i j => .bl (decide (i < j))) := opB0 fun _ _ _ _ _ _ _ q => lt_int q
theorem op_le : OpR X (compareOp .LtE) (rI0 fun i j => .bl (decide (i ≤ j))) := opB0 fun _ _ _ _ _ _ _ q => le_int q
theorem op_gt : OpR X (compareOp .Gt) (rI0 fun i j => .bl (decide (j < i))) := opB0 fun _ _ _ _ _ _ _ q => gt_int q
theorem op_ge : OpR X (compareOp .GtE) (rI0 fun i j => .bl (decide (j ≤ i))) := opB0 fun _ _ _ _ _ _ _ q => ge_int q
theorem nomark (b : Expr) {op : CmpOp} (h : op ≠ .In := by decide) (h2 : op ≠ .NotIn := by decide) : behindInMarks op b = false := by
  have e1 : (op == CmpOp.In) = false := by cases op <;> first | rfl | exact absurd rfl h
  have e2 : (op == CmpOp.NotIn) = false := by cases op <;> first | rfl | exact absurd rfl h2
  cases b <;> simp [behindInMarks, e1, e2]
/-- a comparison as a value; hm: nomark b, or (for in, not in) by with_unfolding_all rfl -/
theorem pe_cmpR {op : CmpOp} {r : R2} (ho : OpR X (compareOp op) r) (ha : PE X a ta) (hb : PE X b tb) (hm : behindInMarks op b = false) : PE X (.Compare a [op] [b] pos) (tOp r ta tb) := by
  intro pins s σ H Q I h
  exact wpAny_Compare1 (binT ha hb I h fun v u s2 x y H2 I2 rx ry q => ho pins s2 σ H2 x y v u Q I2 rx ry q) hm
/-- a reading of a value as a test -/
def tTest (t : TE) : TT := fun σ H Q => t σ H fun x H' => ∃ k, x = .bl k ∧ Q k H'
theorem pt_cmpR {op : CmpOp} {r : R2} (ho : OpR X (compareOp op) r) (ha : PE X a ta) (hb : PE X b tb) (hm : behindInMarks op b = false) : PT X (.Compare a [op] [b] pos) (tTest (tOp r ta tb)) := by
  intro pins s σ H Q I h
  refine wpAny_isTrue_Compare1 (thn (ha pins s σ H _ I h) fun v s1 ⟨x, H1, I1, r1, q1⟩ => thn (hb pins s1 σ H1 _ I1 q1) fun u s2 ⟨y, H2, I2, r2, q2⟩ =>
    thn (ho pins s2 σ H2 x y v u _ I2 r1 r2 q2) fun c s3 ⟨z, H3, I3, r3, k, e, q3⟩ => ?_) hm
  subst e
  cases r3
  exact wpAny_truthy_bool ⟨H3, I3, q3⟩
/-- a op1 b op2 c -/
def tChain (r r' : R2) (ta tb tc : TE) : TE := fun σ H Q => ta σ H fun x H1 => tb σ H1 fun y H2 => r x y H2 fun z H3 => ∃ k, z = .bl k ∧
  (if k = true then tc σ H3 fun w' H4 => r' y w' H4 Q else Q (.bl false) H3)
theorem pt_chain {op op' : CmpOp} {r r' : R2} (ho : OpR X (compareOp op) r) (ho' : OpR X (compareOp op') r') (ha : PE X a ta) (hb : PE X b tb) (hc : PE X c tc)
    (hm : lastMarks [op, op'] [b, c] = false := by with_unfolding_all rfl) : PT X (.Compare a [op, op'] [b, c] pos) (tTest (tChain r r' ta tb tc)) := by
  intro pins s σ H Q I h
  refine isTrue_chain (thn (ha pins s σ H _ I h) fun v s1 ⟨x, H1, I1, r1, q1⟩ => test_link (thn (hb pins s1 σ H1 _ I1 q1) fun u s2 ⟨y, H2, I2, r2, q2⟩ =>
    thn (ho pins s2 σ H2 x y v u _ I2 r1 r2 q2) fun d s3 ⟨z, H3, I3, r3, k, e, q3⟩ => ?_)) hm
  subst e
  cases r3
  refine wpAny_truthy_bool ?_
  cases k with
  | false =>
    obtain ⟨k', e', q'⟩ := q3
    cases e'
    exact ite_ff ⟨H3, I3, q'⟩
  | true =>
    refine ite_tt (test_last (thn (hc pins s3 σ H3 _ I3 q3) fun w' s4 ⟨z', H4, I4, r4, q4⟩ => thn (ho' pins s4 σ H4 y z' u w' _ I4 r2 r4 q4) fun d' s5 ⟨z2, H5, I5, r5, k2, e2, q5⟩ => ?_))
    subst e2
    cases r5
    exact wpAny_truthy_bool ⟨H5, I5, q5⟩

/-! ### truth -/
theorem line63 : (sizeLine : Nat) < 2 ^ 63 := by rw [sizeLine_eq]; decide
/-! ### strs and bytes -/
/-! ### scalar builtins, by CallR -/
theorem vals1 {x : V} {us : List Value} (r : Vals [x] us) : ∃ u, us = [u] ∧ RelV x u := by
  cases r with
  | cons r1 r2 => cases r2; exact ⟨_, rfl, r1⟩
theorem vals2 {x y : V} {us : List Value} (r : Vals [x, y] us) : ∃ u w', us = [u, w'] ∧ RelV x u ∧ RelV y w' := by
  cases r with
  | cons r1 r2 =>
    cases r2 with
    | cons r3 r4 => cases r4; exact ⟨_, _, rfl, r1, r3⟩
theorem call_min2 (hc : X.calm = true) : CallR X (.builtin "min") (fun xs H Q => ∃ i j, xs = [.int i, .int j] ∧ Q (.int (if j < i then j else i)) H) := by
  intro pins s σ H xs us Q I r h
  obtain ⟨i, j, rfl, q⟩ := h
  obtain ⟨u, w', rfl, ⟨t, rfl⟩, ⟨t', rfl⟩⟩ := vals2 r
  refine min_two_ints (I.ok.hd hc) fun h' tk k => ⟨_, H, I.kept k, ?_, q⟩
  by_cases hj : j < i
  · rw [if_pos hj, if_pos hj]; exact ⟨_, rfl⟩
  · rw [if_neg hj, if_neg hj]; exact ⟨_, rfl⟩
end
end L2

namespace L2
open PySem PySem.Spec PyProof.Rows

/-! ### an instance, its attributes a map -/
structure ObjM (h : Heap) (x dx C : Addr) (mA : Str → Option Value) : Prop where
  obj : h.get? x = some (PySem.W.instObj C dx)
  ns : h.Ns1 dx mA
  ne : dx ≠ x

theorem lookIn_ns {h : Heap} {dx : Addr} {mA : Str → Option Value} (n : h.Ns1 dx mA) : ∃ od, h.get? dx = some od ∧ ∀ name, PySem.W.lookIn name od = some (mA name) := by
  obtain ⟨o, es, ep, ho, hd, hk, _, hm⟩ := n
  refine ⟨o, ho, fun name => ?_⟩
  have e := hm name
  unfold nsFind findBy at e
  rw [← Array.find?_toList] at e
  unfold PySem.W.lookIn
  rw [hd]
  dsimp only
  split
  · rename_i y q
    rw [q] at e
    exact congrArg some e
  · rename_i q
    rw [q] at e
    have a : es.toList.any (·.refKey) = false := by
      rw [List.any_eq_false]
      intro y hy
      obtain ⟨z, t, hkey⟩ := hk y (Array.mem_toList_iff.mp hy)
      simp [DictEntry.refKey, hkey]
    have a' : ¬ es.toList.any (·.refKey) = true := by rw [a]; exact Bool.false_ne_true
    rw [if_neg a']
    exact congrArg some e

theorem ObjM.look {h : Heap} {x dx C : Addr} {mA : Str → Option Value} (I : ObjM h x dx C mA) : ∃ od, PySem.W.InstAt h x (PySem.W.instObj C dx) C (some od) ∧ ∀ name, PySem.W.lookIn name od = some (mA name) :=
  let ⟨od, ho, hl⟩ := lookIn_ns I.ns
  ⟨od, ⟨I.obj, rfl, rfl, ho⟩, hl⟩

section
variable {prog : Program} {w : World} {A : Around} {E : Value → Shared → Prop} {s : Shared} {K : PySem.W.Frag} {x dx C f : Addr} {mA : Str → Option Value} {name : Str} {v : Value}

end

/-! ### the attributes as a list of pairs -/
section
variable {P : Program} {w : World} {H H' : Hp} {h h' : Heap} {a C dx : Addr} {fs fs' : List (Str × V)}
theorem ins_get (hok : HOk P w H h) (e : H a = some (.ins C dx fs)) : ∃ mA, ObjM h a dx C mA ∧ (∀ f, RelO (fs.lookup f) (mA f)) ∧ PySem.Within mA (fs.map (·.1)) ∧ fs.length ≤ 1000 ∧ H dx = some (.own a) := by
  obtain ⟨d, z, ne, ob, mA, n, r, q⟩ := (show ObjOk P w H h a (.ins C dx fs) from hok a _ e)
  exact ⟨mA, ⟨ob, n, ne⟩, r, q, z, d⟩
end

/-! ### what of the text a class must have -/
structure Cls (K : PySem.W.Frag) (C : Addr) : Prop where
  pg : PySem.W.plainGet K C Str.empty = true
  hd : PySem.W.hasDictIn K C = true
  po : PySem.W.plainOver K C = true
  sa : PySem.W.findIn K (.ref C) "__setattr__" = some (some (.builtin "object.__setattr__"))
theorem Cls.get {K : PySem.W.Frag} {C : Addr} (c : Cls K C) (f : Str) : PySem.W.plainGet K C f = true := c.pg
section
variable {X : Cx} {pins : List (Addr × Obj)} {σ : St} {H : Hp} {s : Shared} {a C dx : Addr} {fs : List (Str × V)} {f : Str} {v : V} {A : Around} {E : Value → Shared → Prop}

end

/-! ### readings and rules -/
section
variable {X : Cx} {o e value : Expr} {f : Str} {pos pos' tpos : Pos} {ta tv : TE}
end

/-! ### isinstance -/
section
variable {X : Cx} {pins : List (Addr × Obj)} {σ : St} {H : Hp} {s : Shared} {A : Around} {E : Value → Shared → Prop} {Q : Value → Shared → Prop} {c : Value} {b : Bool}
/-- the type of a value, as the fragment's deciders take it; for an instance its class -/
inductive TyOf (K : PySem.W.Frag) (H : Hp) : V → Value → Prop where
  | non : TyOf K H .non (.type "NoneType")
  | bl (x : Bool) : TyOf K H (.bl x) (.type "bool")
  | int (i : Int) : TyOf K H (.int i) (.type "int")
  | str (x : Str) : TyOf K H (.str x) (.type "str")
  | flt (x : UInt64) : TyOf K H (.flt x) (.type "float")
  | lst {a : Addr} {xs : List V} (e : H a = some (.lst xs)) : TyOf K H (.ref a) (.type "list")
  | frz {a : Addr} {o : Obj} {xs : List V} (e : H a = some (.frz o (.lst xs))) : TyOf K H (.ref a) (.type "list")
  | tup {a : Addr} {xs : List V} (e : H a = some (.tup xs)) : TyOf K H (.ref a) (.type "tuple")
  | dK {a : Addr} {kvs : List (Key × V)} (e : H a = some (.dK kvs)) : TyOf K H (.ref a) (.type "dict")
  | dT {a : Addr} {kvs : List (List Key × V)} (e : H a = some (.dT kvs)) : TyOf K H (.ref a) (.type "dict")
  | ins {a C dx : Addr} {fs : List (Str × V)} (e : H a = some (.ins C dx fs)) (cl : Cls K C) (ha : PySem.W.findIn K (.ref C) "__class__" = some (some (.builtin "object.__class__")))
      (hn : PySem.W.specialIn K (.builtin "object.__class__") "__get__" = some (some (.builtin "getset_descriptor.__get__"))) (htk : PySem.W.takesIn K (.builtin "object.__class__") = some true)
      (hm : PySem.W.mroIn K C (.type "object") = some true) : TyOf K H (.ref a) (.ref C)
/-- isinstance(x, c) for one class c, a built-in or an own one: kitOne's answer -/
theorem isinst_ok {x : V} {u t : Value} (I : Inv X pins σ H s) (rx : RelV x u) (ty : TyOf X.K H x t) (e : PySem.W.kitOne X.K t c = some b) (h : ∀ tk, Q (.bool b) { s with toks := tk }) :
    wpAny (model X.prog X.w) A (call (.builtin "isinstance") [u, c]) Q E s := by
  cases ty with
  | non => cases (show u = Value.none from rx); exact PySem.W.kia_one PySem.W.kitx_none I.kIn True.intro e (fun z => nomatch z) h
  | bl y => cases (show u = Value.bool y from rx); exact PySem.W.kia_one PySem.W.kitx_bool I.kIn True.intro e (fun z => nomatch z) h
  | int i => obtain ⟨t, q⟩ := (show ∃ t, u = Value.int i t from rx); cases q; exact PySem.W.kia_one PySem.W.kitx_int I.kIn True.intro e (fun z => nomatch z) h
  | str y => obtain ⟨t, q⟩ := (show ∃ t, u = Value.str y t from rx); cases q; exact PySem.W.kia_one PySem.W.kitx_str I.kIn True.intro e (fun z => nomatch z) h
  | flt y => obtain ⟨t, q⟩ := (show ∃ t, u = Value.float y t from rx); cases q; exact PySem.W.kia_one PySem.W.kitx_float I.kIn True.intro e (fun z => nomatch z) h
  | @lst a xs ea =>
    cases (show u = Value.ref a from rx)
    obtain ⟨_, _, n, _, h1⟩ := (show ObjOk X.prog X.w H s.heap a (.lst xs) from I.hok a _ ea)
    exact PySem.W.kia_one PySem.W.kitx_list I.kIn ⟨_, h1, rfl⟩ e (fun z => nomatch z) h
  | @frz a ob xs ea =>
    cases (show u = Value.ref a from rx)
    obtain ⟨_, _, _, n, _, h1⟩ := (show ObjOk X.prog X.w H s.heap a (.frz ob (.lst xs)) from I.hok a _ ea)
    exact PySem.W.kia_one PySem.W.kitx_list I.kIn ⟨_, h1, rfl⟩ e (fun z => nomatch z) h
  | @tup a xs ea =>
    cases (show u = Value.ref a from rx)
    obtain ⟨_, _, _, p⟩ := (show ObjOk X.prog X.w H s.heap a (.tup xs) from I.hok a _ ea)
    obtain ⟨o, h1, h2, _⟩ := p
    exact PySem.W.kia_one PySem.W.kitx_tuple I.kIn ⟨o, h1, h2⟩ e (fun z => nomatch z) h
  | @dK a kvs ea =>
    cases (show u = Value.ref a from rx)
    obtain ⟨_, _, vs, _, p⟩ := (show ObjOk X.prog X.w H s.heap a (.dK kvs) from I.hok a _ ea)
    obtain ⟨o, es, ep, h1, h2, _⟩ := p
    exact PySem.W.kia_one PySem.W.kitx_dict I.kIn ⟨o, h1, h2.1⟩ e (fun z => nomatch z) h
  | @dT a kvs ea =>
    cases (show u = Value.ref a from rx)
    obtain ⟨_, _, xs, _, o, es, ep, h1, h2, _⟩ := (show ObjOk X.prog X.w H s.heap a (.dT kvs) from I.hok a _ ea)
    exact PySem.W.kia_one PySem.W.kitx_dict I.kIn ⟨o, h1, h2.1⟩ e (fun z => nomatch z) h
  | @ins a C dx fs ea cl ha hn htk hm =>
    cases (show u = Value.ref a from rx)
    obtain ⟨mA, O, _⟩ := ins_get I.hok ea
    obtain ⟨od, J, _⟩ := O.look
    exact PySem.W.kia_one (PySem.W.kitx_own (cl.get _) cl.hd ha hn htk hm) I.kIn J e (fun z => nomatch z) h
end
end L2

namespace L2
open PySem PySem.Spec PyProof.Rows

/-! ### room -/
structure Room (k : Nat) (A : Around) : Prop where
  hd : A.handled = none
  dp : A.depth + 3 * k + 5 < recursionLimit
  un : A.units + 16 * k + 200 < cLine
theorem Room.mono {j k : Nat} {A : Around} (r : Room k A) (h : j ≤ k) : Room j A := ⟨r.hd, by have := r.dp; omega, by have := r.un; omega⟩
theorem Room.deeper {k : Nat} {A : Around} (r : Room (k + 1) A) (env : Env) : Room k (A.deeper env) :=
  ⟨r.hd, by have := r.dp; show A.depth + 1 + 3 * k + 5 < _; omega, by have := r.un; show A.units + 3 + 16 * k + 200 < _; omega⟩
theorem Room.depth {k : Nat} {A : Around} (r : Room k A) : A.depth < recursionLimit := by have := r.dp; omega
theorem Room.units {k : Nat} {A : Around} (r : Room k A) : A.units + 64 < cLine := by have := r.un; omega
/-! ### argument lists and displays -/
def tNil : TA := fun _ H Q => Q [] H
def tCons (ta : TE) (tr : TA) : TA := fun σ H Q => ta σ H fun x H1 => tr σ H1 fun xs H2 => Q (x :: xs) H2
section
variable {X : Cx} {e : Expr} {es : List Expr} {te : TE} {t : TA} {pos : Pos}
theorem pa_nil : PA X [] tNil := fun _ _ _ _ H Q I h => Calls.spliced_nil ⟨[], H, I, .nil, h⟩
theorem pa_cons (ha : PE X e te) (hr : PA X es t) (hs : starEach (e :: es) X.env = (false, eval e X.env) :: starEach es X.env := by rfl) : PA X (e :: es) (tCons te t) := by
  intro pos pins s σ H Q I h
  rw [hs]
  show wpAny _ _ (spliced ((false, eval e X.env) :: backTo pos (starEach es X.env))) _ _ s
  refine Calls.spliced_cons (thn (ha pins s σ H _ I h) fun u s1 ⟨x, H1, I1, r1, q1⟩ => ?_)
  exact thn (hr pos pins s1 σ H1 _ I1 q1) fun us s2 ⟨xs, H2, I2, r2, q2⟩ => ⟨x :: xs, H2, I2, .cons r1 r2, q2⟩

/-- a tuple, a list of written items -/
def tTup (t : TA) : TE := fun σ H Q => t σ H fun xs H1 => xs.length ≤ sizeLine ∧ ∀ p, H1 p = none → Q (.ref p) (upd H1 p (.tup xs))
def tLst (t : TA) : TE := fun σ H Q => t σ H fun xs H1 => xs.length ≤ sizeLine ∧ ∀ p, H1 p = none → Q (.ref p) (upd H1 p (.lst xs))
theorem pe_tup {x1} (h : PA X es t) : PE X (.Tuple es x1 pos) (tTup t) := by
  intro pins s σ H Q I hq
  refine wpAny_Tuple_spliced (thn (h pos pins s σ H _ I hq) fun us s1 ⟨xs, H1, I1, r, z, q⟩ => ⟨by rw [← r.length]; exact z, ?_⟩)
  have hf : H1 s1.heap.objs.size = none := I1.hok.fresh (Nat.le_refl _)
  refine ⟨.ref s1.heap.objs.size, upd H1 s1.heap.objs.size (.tup xs), I1.laid (t' := s1.toks) (fun b u e => Heap.get?_push_of_some _ e) (Nat.le_refl _) ?_, rfl, q _ hf⟩
  exact ⟨z, us, r, ⟨_, Heap.get?_push_size _ rfl, rfl, _, rfl⟩⟩
theorem pe_lst (h : PA X es t) : PE X (.List es pos) (tLst t) := by
  intro pins s σ H Q I hq
  refine wpAny_List_spliced (thn (h pos pins s σ H _ I hq) fun us s1 ⟨xs, H1, I1, r, z, q⟩ => ⟨by rw [← r.length]; exact z, ?_⟩)
  have hf : H1 s1.heap.objs.size = none := I1.hok.fresh (Nat.le_refl _)
  refine ⟨.ref s1.heap.objs.size, upd H1 s1.heap.objs.size (.lst xs), I1.laid (t' := s1.toks) (fun b u e => Heap.get?_push_of_some _ e) (Nat.le_refl _) ?_, rfl, q _ hf⟩
  exact ⟨z, us, 0, r, Heap.get?_push_size _ rfl⟩
end

/-! ### what a def promises -/
/-- a def's promise: the bound arguments in the parameters' order, the heap, the wanted end, the wanted exception -/
abbrev Sp := List V → Hp → VK → XK → Prop
/-- how an exception lies behind a call (file 08 gives it): the callers' frames, abstract heap and state ahead of the call, the wish, the exception, the state -/
abbrev CXT := List Env → Hp → Shared → XK → Value → Shared → Prop

/-- the state at a call -/
structure Env0 (P : Program) (w : World) (K : PySem.W.Frag) (mg : Str → Option Value) (base : Heap) (A : Around) (outer : List Env) (s : Shared) (H : Hp) : Prop where
  frames : A.frames = some outer
  mod : Mod K mg base
  bs : ∀ b o, base.get? b = some o → s.heap.get? b = some o ∧ H b = none
  bsz : base.objs.size ≤ s.heap.objs.size
  funs : s.heap.FunFrames base outer
  frf : ∀ b ∈ frs outer, H b = none
  hok : HOk P w H s.heap
  bare : AllBare s.gens
/-- a call's end -/
def CE (outer : List Env) (P : Program) (w : World) (H : Hp) (s : Shared) (Q : VK) (u : Value) (s' : Shared) : Prop :=
  ∃ v H', s'.os = s.os ∧ AllBare s'.gens ∧ Un (frs outer) [] H H' s.heap s'.heap ∧ HOk P w H' s'.heap ∧ RelV v u ∧ Q v H'
def CR (CX : CXT) (outer : List Env) (P : Program) (w : World) (H : Hp) (s : Shared) (Q : VK) (E : XK) (r : Result) (s' : Shared) : Prop :=
  match r with
  | .ok (.ret u) => CE outer P w H s Q u s'
  | .ok _ => False
  | .error e => CX outer H s E e s'
structure FnOk (P : Program) (w : World) (K : PySem.W.Frag) (mg : Str → Option Value) (base : Heap) (CX : CXT) (k : Nat) (f : Addr) (fd : FuncData) (ps : List Str) (sp : Sp) : Prop where
  len : ∀ vs H Q E, sp vs H Q E → vs.length = ps.length
  run : ∀ (A : Around) (outer : List Env) (s : Shared) (H : Hp) (args : Args) (us : List Value) (vs : List V) (Q : VK) (E : XK), Room k A → Env0 P w K mg base A outer s H → BindsTo s fd args (ps.zip us) → Vals vs us → sp vs H Q E →
    codeAny (model P w) A (.call (.ref f) args) (CR CX outer P w H s Q E) s
theorem FnOk.mono {P : Program} {w : World} {K : PySem.W.Frag} {mg : Str → Option Value} {base : Heap} {CX : CXT} {j k : Nat} {f : Addr} {fd : FuncData} {ps : List Str} {sp : Sp} (F : FnOk P w K mg base CX j f fd ps sp) (h : j ≤ k) :
    FnOk P w K mg base CX k f fd ps sp := ⟨F.len, fun A outer s H args us vs Q E hr => F.run A outer s H args us vs Q E (hr.mono h)⟩
section
variable {X : Cx} {pins : List (Addr × Obj)} {σ : St} {H : Hp} {s s' : Shared}
/-- from a body: what a callee wants -/
theorem Inv.env0 (I : Inv X pins σ H s) : Env0 X.prog X.w X.K X.mg X.base X.A X.stack s H :=
  ⟨I.ok.frames, I.ok.mod, I.bs, Nat.le_trans I.ok.bsz I.sz, I.stack, I.stkFree, I.hok, I.bare⟩
/-- behind a call -/
theorem Inv.after {Q : VK} {u : Value} (I : Inv X pins σ H s) (h : CE X.stack X.prog X.w H s Q u s') : EP X pins σ Q u s' := by
  obtain ⟨v, H', os, bare, un, hok, r, q⟩ := h
  obtain ⟨hh, g, d, t, os'⟩ := s'
  obtain rfl : os' = s.os := os
  exact ⟨v, H', I.call (h' := hh) (g' := g) (d' := d) (t' := t) (ch := []) un hok bare (fun b z => absurd z (by simp)), r, q⟩
end

/-! ### calls -/
/-- f(..): the written arguments, then the defaults dvs; E: what is wanted of an exception -/
def tCall (sp : Sp) (dvs : List V) (E : XK) (t : TA) : TE := fun σ H Q => t σ H fun vs H1 => sp (vs ++ dvs) H1 Q E
/-- how the parameters are bound: us the positional arguments, kw the keywords' values by name, ds the defaults that fill up -/
def Binds (K : PySem.W.Frag) (fd : FuncData) (ps : List Str) (ds : List Value) : Prop :=
  ∀ (s : Shared) (us : List Value), K.In s.heap → (us ++ ds).length = ps.length → BindsTo s fd ⟨us, []⟩ (ps.zip (us ++ ds))
/-- every parameter is given -/
theorem Binds.all {K : PySem.W.Frag} {fd : FuncData} {ps : List Str} (h : ∀ us : List Value, us.length = ps.length → bindArgs fd ⟨us, []⟩ = pure (ps.zip us)) : Binds K fd ps [] := fun s us _ hl => by
  rw [List.append_nil] at hl ⊢
  exact .of_eq (h us hl)

/-- an exception of a callee reaches what this body wants of exceptions -/
def Passes (CX : CXT) (X : Cx) (E : XK) : Prop := ∀ (pins : List (Addr × Obj)) (σ : St) (H : Hp) (s : Shared) (e : Value) (s' : Shared), Inv X pins σ H s → CX X.stack H s E e s' → X.xe e s'

section
variable {X : Cx} {CX : CXT} {k : Nat} {f C : Addr} {fd : FuncData} {ps : List Str} {sp : Sp} {dvs : List V} {ds : List Value} {E : XK} {x m : Str} {p pos apos : Pos} {e o : Expr} {es : List Expr} {ta : TE} {t : TA}

/-- the callee runs -/
theorem run_fn {pins : List (Addr × Obj)} {σ : St} {H : Hp} {s : Shared} {Q : VK} {us : List Value} {vs : List V} (F : FnOk X.prog X.w X.K X.mg X.base CX k f fd ps sp) (hr : Room k X.A) (hb : Binds X.K fd ps ds) (hd : Vals dvs ds) (hx : Passes CX X E)
    (I : Inv X pins σ H s) (r : Vals vs us) (h : sp (vs ++ dvs) H Q E) : wpAny (model X.prog X.w) X.A (call (.ref f) us) (EP X pins σ Q) X.xe s := by
  have r2 : Vals (vs ++ dvs) (us ++ ds) := r.append hd
  have hl : (us ++ ds).length = ps.length := by rw [← r2.length]; exact F.len _ _ _ _ h
  refine wpAny_call (codeAny_mono (F.run X.A X.stack s H ⟨us, []⟩ (us ++ ds) (vs ++ dvs) Q E hr I.env0 (hb s us I.kIn hl) r2 h) fun r s' hq => ?_)
  cases r with
  | error e => exact hx pins σ H s e s' I hq
  | ok fl =>
    cases fl with
    | ret u => exact I.after hq
    | next => exact False.elim hq
    | brk => exact False.elim hq
    | cont => exact False.elim hq

theorem pe_call (F : FnOk X.prog X.w X.K X.mg X.base CX k f fd ps sp) (hr : Room k X.A) (hg : Gl X x) (hm : X.mg x = some (.ref f)) (hk : PySem.W.keepIn X.K (.ref f) = true) (hb : Binds X.K fd ps ds) (hd : Vals dvs ds) (hx : Passes CX X E)
    (ha : PA X (e :: es) t) (hdb : (x == ("__debug__" : Str)) = false := by decide) (he : starEach (e :: es) X.env = (false, eval e X.env) :: starEach es X.env := by rfl) (hpl : (backTo pos (starEach es X.env)).any (·.1) = false := by rfl) :
    PE X (.Call (.Name x p) (e :: es) [] pos) (tCall sp dvs E t) := by
  intro pins s σ H Q I h
  refine wpAny_Call_Name_kw (ld_glob I hg hm ?_ hdb)
  refine PySem.W.callWith_K (h₀ := X.base) I.ok.mod.kin hk (thn (ha pos pins s σ H _ I h) fun us s1 ⟨vs, H1, I1, r, q⟩ => ⟨I1.kIn, ?_⟩) he hpl
  exact run_fn F hr hb hd hx I1 r q
end

/-! ### keywords -/
section
variable {X : Cx} {CX : CXT} {k : Nat} {f C : Addr} {fd : FuncData} {ps ks : List Str} {sp : Sp} {E : XK} {x m : Str} {p pos apos kpos : Pos} {e o : Expr} {es : List Expr} {kws : List Keyword} {te ta : TE} {t tk : TA} {nm : Option Str}
variable {g : List Value → List Value → List Value} {gV : List V → List V → List V}
end

/-! ### a def's body keeps its promise -/
/-- names: the parameters first -/
structure FnScope (N P : List Str) (sc : Scope) : Prop where
  kind : sc.kind = .function
  co : sc.isCoroutine = false
  gen : sc.isGenerator = false
  nd : N.Nodup
  pre : N.take P.length = P
  par : ∀ x ∈ P, sc.names.lookup x = some .local ∨ sc.names.lookup x = some .cell
  nofree : ∀ y ∈ sc.names, y.2 ≠ .free

theorem bindL_out {kindOf : Str → Option NameKind} {x : Str} : ∀ {binds : List (Str × Value)} {m : Str → Option Value}, (∀ v, (x, v) ∉ binds) → bindL kindOf binds m x = m x
  | [], _, _ => rfl
  | (n, v) :: r, m, h => by
    unfold bindL
    rw [bindL_out fun w hw => h w (List.mem_cons_of_mem _ hw)]
    split
    · have : x ≠ n := by rintro rfl; exact h v List.mem_cons_self
      simp [this]
    · rfl
theorem bindC_out {kindOf : Str → Option NameKind} {x : Str} : ∀ {binds : List (Str × Value)} {m : Str → Option Value}, (∀ v, (x, v) ∉ binds) → bindC kindOf binds m x = m x
  | [], _, _ => rfl
  | (n, v) :: r, m, h => by
    unfold bindC
    rw [bindC_out fun w hw => h w (List.mem_cons_of_mem _ hw)]
    split
    · rfl
    · have : x ≠ n := by rintro rfl; exact h v List.mem_cons_self
      simp [this]
theorem bindL_get {kindOf : Str → Option NameKind} {x : Str} {v : Value} : ∀ {P : List Str} {vs : List Value} {i : Nat} {m : Str → Option Value}, P.Nodup → P[i]? = some x → vs[i]? = some v → kindOf x = some .local →
    bindL kindOf (P.zip vs) m x = some v
  | [], _, _, _, _, h, _, _ => by simp at h
  | _ :: _, [], _, _, _, _, h, _ => by simp at h
  | p :: P, w :: vs, 0, m, nd, h1, h2, hk => by
    simp at h1 h2; subst h1; subst h2
    show bindL kindOf ((p, w) :: P.zip vs) m p = _
    unfold bindL
    rw [bindL_out fun v hv => (List.nodup_cons.mp nd).1 (List.of_mem_zip hv).1, if_pos hk]
    simp
  | p :: P, w :: vs, i + 1, m, nd, h1, h2, hk => by
    show bindL kindOf ((p, w) :: P.zip vs) m x = _
    unfold bindL
    exact bindL_get (i := i) (List.nodup_cons.mp nd).2 (by simpa using h1) (by simpa using h2) hk
theorem bindC_get {kindOf : Str → Option NameKind} {x : Str} {v : Value} : ∀ {P : List Str} {vs : List Value} {i : Nat} {m : Str → Option Value}, P.Nodup → P[i]? = some x → vs[i]? = some v → kindOf x ≠ some .local →
    bindC kindOf (P.zip vs) m x = some v
  | [], _, _, _, _, h, _, _ => by simp at h
  | _ :: _, [], _, _, _, _, h, _ => by simp at h
  | p :: P, w :: vs, 0, m, nd, h1, h2, hk => by
    simp at h1 h2; subst h1; subst h2
    show bindC kindOf ((p, w) :: P.zip vs) m p = _
    unfold bindC
    rw [bindC_out fun v hv => (List.nodup_cons.mp nd).1 (List.of_mem_zip hv).1, if_neg hk]
    simp
  | p :: P, w :: vs, i + 1, m, nd, h1, h2, hk => by
    show bindC kindOf ((p, w) :: P.zip vs) m x = _
    unfold bindC
    exact bindC_get (i := i) (List.nodup_cons.mp nd).2 (by simpa using h1) (by simpa using h2) hk

/-- the names' values at the entry -/
def start (N : List Str) (vs : List V) : St := vs.map some ++ List.replicate (N.length - vs.length) none

/-- the context of a def's body, at its entry; an exception leaves the frame, then lies as CX says -/
def cxOf (CX : CXT) (P : Program) (w : World) (K : PySem.W.Frag) (mg : Str → Option Value) (base : Heap) (N : List Str) (qual : Str) (scope : Scope) (f : Addr) (cd : Value) (A : Around) (outer : List Env) (s : Shared) (H : Hp) (E : XK) : Cx where
  prog := P
  w := w
  K := K
  mg := mg
  base := base
  A := A.deeper (envOfC qual scope s.heap.objs.size f cd)
  N := N
  s₀ := s
  H₀ := H
  env := envOfC qual scope s.heap.objs.size f cd
  outer := outer
  stack := envOfC qual scope s.heap.objs.size f cd :: outer
  ex := []
  calm := true
  fn := fun _ => true
  pn := []
  xe := fun e s' => wpAny (model P w) (A.deeper (envOfC qual scope s.heap.objs.size f cd)) (leaving (envOfC qual scope s.heap.objs.size f cd) e) (fun _ s'' => CX outer H s E e s'') (fun e' s'' => CX outer H s E e' s'') s'

theorem cell_has {sc : Scope} {n : Nat} {x : Str} (h : sc.names.lookup x = some .cell) : ∃ c, (cellsFrom n sc.names []).lookup x = some c := by
  have q := PySem.W.cellsFrom_some sc.names n [] (.inl h)
  exact Option.isSome_iff_exists.mp q

theorem inv_start {CX : CXT} {P : Program} {w : World} {K : PySem.W.Frag} {mg : Str → Option Value} {base : Heap} {N ps : List Str} {qual : Str} {scope : Scope} {f : Addr} {cd : Value} {A : Around} {outer : List Env} {s s1 : Shared} {H : Hp} {E : XK} {us : List Value} {vs : List V}
    (S : FnScope N ps scope) (hd : A.handled = none) (e0 : Env0 P w K mg base A outer s H) (hl : vs.length = ps.length) (r : Vals vs us)
    (x : InCallC s s.heap.objs.size (bindL (envOfC qual scope s.heap.objs.size f cd).kindOf (ps.zip us) fun _ => none) (cellsFrom (s.heap.objs.size + 1) scope.names []) (bindC (envOfC qual scope s.heap.objs.size f cd).kindOf (ps.zip us) fun _ => none) s1) :
    Inv (cxOf CX P w K mg base N qual scope f cd A outer s H E) [] (start N vs) H s1 := by
  have hpl : ps.length ≤ N.length := by have := congrArg List.length S.pre; rw [List.length_take] at this; omega
  obtain ⟨h1, tk, rfl, hk⟩ := x.done
  have noA : ∀ b : Addr, b ∉ (cxOf CX P w K mg base N qual scope f cd A outer s H E).ex := fun b z => absurd (show b ∈ ([] : List Addr) from z) (by simp)
  refine ⟨⟨e0.mod, S.kind, rfl, rfl, Nat.le_refl _, fun y z c h1 h2 => ?_, fun y hy => ?_, fun y c _ h => ?_, fun _ => hd, Around.frames_deeper e0.frames, .inr ⟨rfl, rfl⟩, fun b z => absurd z (noA b), e0.bs, e0.bsz, fun b _ _ => noA b, fun b z => absurd z (noA b), e0.funs, e0.frf⟩,
    rfl, e0.bare, Un.kept hk, ⟨_, x.toInCall.ns, fun i y v h1 h2 h3 => ?_⟩, fun y c h => ⟨_, x.cell y c h⟩, e0.hok.fresh (Nat.le_refl _), fun y c h => ?_, fun p hp => absurd (show p ∈ ([] : List (Addr × Obj)) from hp) (by simp), e0.hok.kept hk, ?_⟩
  · exact name_of_addr x.apart (PySem.mem_of_lookup h1) (PySem.mem_of_lookup h2)
  · have hy : scope.names.lookup y = some .cell ∨ scope.names.lookup y = some .free := hy
    rcases hy with hy | hy
    · exact cell_has hy
    · exact absurd rfl (S.nofree _ (PySem.mem_of_lookup hy))
  · exact Nat.le_of_lt (x.above y c (PySem.mem_of_lookup h))
  · have hi : i < vs.length := by
      unfold start at h2
      by_cases hi : i < vs.length
      · exact hi
      · rw [List.getElem?_append_right (by simpa using hi)] at h2
        rw [List.getElem?_replicate] at h2
        split at h2 <;> cases h2
    have ha : vs[i]? = some v := by
      unfold start at h2
      rw [List.getElem?_append_left (by simpa using hi), List.getElem?_map] at h2
      cases e : vs[i]? with
      | none => rw [e] at h2; cases h2
      | some a => rw [e] at h2; cases h2; rfl
    obtain ⟨u, hu, rv⟩ := r.get ha
    have hp : ps[i]? = some y := by
      rw [← S.pre, List.getElem?_take_of_lt (by omega)]; exact h1
    have ndP : ps.Nodup := by rw [← S.pre]; exact S.nd.sublist (List.take_sublist _ _)
    refine ⟨u, rv, ?_⟩
    rcases S.par y (List.mem_of_getElem? hp) with k | k
    · exact .inl ⟨k, bindL_get ndP hp hu k⟩
    · obtain ⟨c, e⟩ := cell_has (n := s.heap.objs.size + 1) k
      refine .inr ⟨.inl k, c, e, ?_⟩
      have q := x.cell y c e
      rw [bindC_get ndP hp hu (by show scope.names.lookup y ≠ _; rw [k]; decide)] at q
      exact q
  · exact e0.hok.fresh (Nat.le_of_lt (x.above y c (PySem.mem_of_lookup h)))
  · unfold start
    show _ = N.length
    rw [List.length_append, List.length_map, List.length_replicate]
    omega

/-- THE RULE: a def (or a method) of the text, by its body. The body's reading t is chosen for each entry; it is run at the parameters' values -/
theorem fn_of {CX : CXT} {P : Program} {w : World} {K : PySem.W.Frag} {mg : Str → Option Value} {base : Heap} {k : Nat} {f : Addr} {name qual : Str} {params : Arguments} {body : List Stmt} {scope : Scope} {dV kV doc pm cdv ct oc : Value} {an od : Option Addr}
    {osl : Array (Option Value)} {N ps : List Str} {sp : Sp} (lk : K.lookup f = some ⟨oc, od, .func (PySem.W.fnOf name qual params body scope dV kV doc pm an cdv ct), osl⟩) (hcd : PySem.W.codeIn K cdv qual = true) (S : FnScope N ps scope)
    (len : ∀ vs H Q E, sp vs H Q E → vs.length = ps.length)
    (hbody : ∀ (A : Around) (outer : List Env) (s : Shared) (H : Hp) (vs : List V) (Q : VK) (E : XK), Room k (A.deeper (envOfC qual scope s.heap.objs.size f cdv)) → sp vs H Q E →
      ∃ t, PSs (cxOf CX P w K mg base N qual scope f cdv A outer s H E) body t ∧ t { nx := fun _ H' => Q .non H', rt := Q } (start N vs) H) :
    FnOk P w K mg base CX (k + 1) f (PySem.W.fnOf name qual params body scope dV kV doc pm an cdv ct) ps sp := by
  refine ⟨len, fun A outer s H args us vs Q E hr e0 hb r hsp => ?_⟩
  have hl := len _ _ _ _ hsp
  have KX : K.In s.heap := e0.mod.kin.keeps fun b o e => (e0.bs b o e).1
  have lim : s.heap.NoLimit := e0.mod.nolimit.keeps fun b o e => (e0.bs b o e).1
  have hkind : ∀ y ∈ ps.zip us, scope.names.lookup y.1 = some .local ∨ (scope.names.lookup y.1 = some .cell ∧ ((cellsFrom (s.heap.objs.size + 1) scope.names []).lookup y.1).isSome = true) := fun ⟨n, v⟩ hy => by
    rcases S.par n (List.of_mem_zip hy).1 with q | q
    · exact .inl q
    · exact .inr ⟨q, PySem.W.cellsFrom_some _ _ _ (.inl q)⟩
  refine codeAny_call_function hr.depth (KX _ _ lk) rfl S.co S.gen rfl (PySem.W.codeRec_of KX hcd) (hb _ _ _ _ ?_)
  refine wpAny_newFunctionEnv_cells S.kind hkind fun env he s1 x => ?_
  subst he
  refine ⟨lim.keeps x.toInCall.keep, codeAny_func ?_⟩
  obtain ⟨t, ht, hq⟩ := hbody A outer s H vs Q E (hr.deeper _) hsp
  have I : Inv (cxOf CX P w K mg base N qual scope f cdv A outer s H E) [] (start N vs) H s1 := inv_start S hr.hd e0 hl r x
  refine wpAny_mono (ht [] s1 (start N vs) H _ I hq) (fun fl s' hs => ?_) fun e s' hs => hs
  have fin : ∀ {σ' : St} {H' : Hp} {v : V} {u : Value}, Inv (cxOf CX P w K mg base N qual scope f cdv A outer s H E) [] σ' H' s' → RelV v u → Q v H' → CE outer P w H s Q u s' :=
    fun {σ' H' v u} J rv q => ⟨v, H', J.os, J.bare, J.base, J.hok, rv, q⟩
  cases fl with
  | ret u =>
    obtain ⟨v, σ', H', J, rv, q⟩ := hs
    exact fin J rv q
  | next =>
    obtain ⟨σ', H', J, q⟩ := hs
    exact fin (v := V.non) (u := Value.none) J rfl q
  | brk =>
    obtain ⟨_, _, _, q⟩ := hs
    exact False.elim q
  | cont =>
    obtain ⟨_, _, _, q⟩ := hs
    exact False.elim q
end L2

namespace L2
open PySem PySem.Spec PyProof.Rows
section
variable {X : Cx} {x : Str} {p pos : Pos} {e : Expr} {es : List Expr} {t : TA} {id T : String} {r : List V → Hp → VK → Prop}

def tCB (r : List V → Hp → VK → Prop) (t : TA) : TE := fun σ H Q => t σ H fun vs H1 => r vs H1 Q
/-- f(e, ..), f a built-in function -/
theorem pe_callB (hc : CallR X (.builtin id) r) (hg : Gl X x) (hm : X.mg x = none) (hv : bootBuiltins x = some (.builtin id)) (ha : PA X (e :: es) t) (hn : x ≠ "__name__" := by decide) (hdb : (x == ("__debug__" : Str)) = false := by decide)
    (he : starEach (e :: es) X.env = (false, eval e X.env) :: starEach es X.env := by rfl) (hpl : (backTo pos (starEach es X.env)).any (·.1) = false := by rfl) : PE X (.Call (.Name x p) (e :: es) [] pos) (tCB r t) := by
  intro pins s σ H Q I h
  refine wpAny_Call_Name_kw (ld_blt I hg hm hv ?_ hn hdb)
  exact PyProof.Rows.callWith_builtin1 (thn (ha pos pins s σ H _ I h) fun us s1 ⟨vs, H1, I1, r1, q1⟩ => hc pins s1 σ H1 vs us Q I1 r1 q1) he hpl
/-- T(e, ..), T a built-in type -/
theorem pe_callTy (hc : CallR X (.type T) r) (hg : Gl X x) (hm : X.mg x = none) (hv : bootBuiltins x = some (.type T)) (ha : PA X (e :: es) t) (hn : x ≠ "__name__" := by decide) (hdb : (x == ("__debug__" : Str)) = false := by decide)
    (he : starEach (e :: es) X.env = (false, eval e X.env) :: starEach es X.env := by rfl) (hpl : (backTo pos (starEach es X.env)).any (·.1) = false := by rfl) : PE X (.Call (.Name x p) (e :: es) [] pos) (tCB r t) := by
  intro pins s σ H Q I h
  refine wpAny_Call_Name_kw (ld_blt I hg hm hv ?_ hn hdb)
  exact PyProof.Rows.callWith_type1 (thn (ha pos pins s σ H _ I h) fun us s1 ⟨vs, H1, I1, r1, q1⟩ => hc pins s1 σ H1 vs us Q I1 r1 q1) he hpl
end
end L2

namespace HT
open PySem PyProof.Rows

section
open PySem.SeqAt
open PySem.AutoSeq1 (wpAny_loadPart')
open PySem.MeetsSeq PySem.MeetsSeq2 PySem.MeetsSeq3

end

section
variable {prog : Program} {w : World} {A : Around} {E : Value → Shared → Prop} {s : Shared}

/-! ### t[a:b], not the whole -/
/-- a slice's bound as a place among n (d where it is left out) -/
def sIx (n d : Nat) : Option Int → Nat
  | none => d
  | some v => if v < 0 then (v + (n : Int)).toNat else min v.toNat n
theorem sIx_none (n d : Nat) : sIx n d none = d := rfl
theorem sIx_nat (n d k : Nat) : sIx n d (some (k : Int)) = min k n := by
  show (if (k : Int) < 0 then ((k : Int) + (n : Int)).toNat else min (k : Int).toNat n) = min k n
  rw [if_neg (by omega), Int.toNat_natCast]
theorem sIx_le (n d : Nat) (hd : d ≤ n) (o : Option Int) : sIx n d o ≤ n := by
  cases o with
  | none => exact hd
  | some v =>
    show (if v < 0 then (v + (n : Int)).toNat else min v.toNat n) ≤ n
    by_cases hv : v < 0
    · rw [if_pos hv]; omega
    · rw [if_neg hv]; exact Nat.min_le_right _ _
theorem clip_eq (v : Int) (n d : Nat) : (if v < 0 then max (v + (n : Int)) 0 else min v (n : Int)) = ((sIx n d (some v) : Nat) : Int) := by
  show (if v < 0 then max (v + (n : Int)) 0 else min v (n : Int)) = (((if v < 0 then (v + (n : Int)).toNat else min v.toNat n) : Nat) : Int)
  by_cases hv : v < 0
  · simp only [if_pos hv]; omega
  · simp only [if_neg hv]; omega
theorem adjust_gen (lo hi : Option Int) (n : Nat) : Builtin.Slice.sliceAdjust lo hi 1 (n : Int) = (((sIx n 0 lo : Nat) : Int), ((sIx n n hi : Nat) : Int)) := by
  have h1 : ¬ ((1 : Int) < 0) := by omega
  unfold Builtin.Slice.sliceAdjust
  simp only [h1, if_false]
  refine Prod.ext ?_ ?_
  · cases lo with
    | none => rfl
    | some v => exact clip_eq v n 0
  · cases hi with
    | none => rfl
    | some v => exact clip_eq v n n
theorem places_gen (i j : Nat) : Builtin.Slice.slicePlaces (i : Int) (j : Int) 1 = j - i := by
  unfold Builtin.Slice.slicePlaces
  have h1 : (1 : Int) > 0 := by omega
  simp only [h1, if_true, Int.ediv_one]
  split <;> omega
theorem slicePart_ {v : Value} {o : Option Int} {Q : Option Int → Shared → Prop} (p : IsPart v o) (h : Q o s) : wpAny (model prog w) A (Builtin.Slice.slicePartIndex v) Q E s := by
  cases p with
  | none => exact slicePart_none h
  | int i t => exact slicePart_int h
theorem sliceApplied_gen {sl : Addr} {vl vu : Value} {lo hi : Option Int} {n : Nat} {Q : Int × Int × Nat → Shared → Prop} (hs : s.heap.IsSliceOf sl vl vu .none) (pl : IsPart vl lo) (pu : IsPart vu hi)
    (h : Q (((sIx n 0 lo : Nat) : Int), 1, sIx n n hi - sIx n 0 lo) s) : wpAny (model prog w) A (Builtin.Slice.sliceApplied (.ref sl) (pure (n : Int))) Q E s := by
  obtain ⟨os, hos, hcs, hds⟩ := id hs
  unfold Builtin.Slice.sliceApplied Builtin.Slice.sliceFields
  refine wpAny_bind (wpAny_bind (wpAny_field hos hds (x := vl) rfl (wpAny_bind (wpAny_field hos hds (x := vu) rfl (wpAny_bind (wpAny_field hos hds (x := .none) rfl (wpAny_pure ?_)))))))
  refine wpAny_bind (slicePart_none ?_)
  show wpAny _ _ (if ((1 : Int) == 0) = true then _ else _) _ _ s
  rw [if_neg (by decide)]
  refine wpAny_bind (slicePart_ pl (wpAny_bind (slicePart_ pu (wpAny_bind (wpAny_pure ?_)))))
  show wpAny _ _ (match Builtin.Slice.sliceAdjust lo hi 1 (n : Int) with | (lo, hi) => pure (lo, (1 : Int), Builtin.Slice.slicePlaces lo hi 1)) _ _ s
  rw [adjust_gen lo hi n]
  show wpAny _ _ (pure (((sIx n 0 lo : Nat) : Int), (1 : Int), Builtin.Slice.slicePlaces ((sIx n 0 lo : Nat) : Int) ((sIx n n hi : Nat) : Int) 1)) _ _ s
  rw [places_gen]
  exact wpAny_pure h
theorem pick_gen (xs : Array Value) (i k : Nat) : ((List.range k).filterMap fun (m : Nat) => xs[((i : Int) + (m : Int) * 1).toNat]?).toArray = ((xs.toList.drop i).take k).toArray := by
  have e : (fun (m : Nat) => xs[((i : Int) + (m : Int) * 1).toNat]?) = fun m => xs[i + m]? := by
    funext m
    have : ((i : Int) + (m : Int) * 1).toNat = i + m := by omega
    rw [this]
  rw [e]
  have := pick_run xs i k
  rw [List.filterMap_map] at this
  have e2 : ((fun x => xs[x]?) ∘ fun x => i + x) = fun m => xs[i + m]? := rfl
  rw [e2] at this
  rw [this]

theorem getItem_tuple_cut {t sl : Addr} {items : Array Value} {vl vu : Value} {lo hi : Option Int} {Q : Value → Shared → Prop} (ht : IsTup s.heap t items) (hs : s.heap.IsSliceOf sl vl vu .none) (pl : IsPart vl lo) (pu : IsPart vu hi)
    (hw : ¬ (sIx items.size 0 lo = 0 ∧ sIx items.size items.size hi = items.size))
    (h : Q (.ref s.heap.objs.size) { s with heap := s.heap.push { cls := .type "tuple", data := .seq ((items.toList.drop (sIx items.size 0 lo)).take (sIx items.size items.size hi - sIx items.size 0 lo)).toArray } })
    (hsz : items.size ≤ sizeLine) : wpAny (model prog w) A (getItem (.ref t) (.ref sl)) Q E s := by
  have htake : sizeOk (.seq ((items.toList.drop (sIx items.size 0 lo)).take (sIx items.size items.size hi - sIx items.size 0 lo)).toArray) := by
    show ((items.toList.drop (sIx items.size 0 lo)).take (sIx items.size items.size hi - sIx items.size 0 lo)).toArray.size ≤ sizeLine
    rw [List.size_toArray, List.length_take, List.length_drop, Array.length_toList]
    omega
  have hj : sIx items.size items.size hi ≤ items.size := sIx_le _ _ (Nat.le_refl _) hi
  obtain ⟨os, hos, hcs, hds⟩ := id hs
  have hTs : s.TypeIs (.ref sl) "slice" := ⟨os, hos, hcs⟩
  unfold getItem
  try with_reducible refine wpAny_holding ?_
  first | refine wpAny_bind (wpAny_pure ?_) | skip
  refine wpAny_bind (wpAny_sequenceKey ht.typeIs (by decide) ?_)
  refine wpAny_bind (wpAny_callSpecial?_slot (name := Str.ofString "__getitem__") ht.typeIs PyProof.Rows.slot_tuple_getitem
    (wpAny_call_entry PyProof.Rows.slot_tuple_getitem ht.typeIs entry_tuple_getitem ?_ (args_tuple_getitem _ _)))
  show wpAny _ _ (Builtin.Tuple.tupleItemsOf (.ref t) >>= _) _ _ s
  refine wpAny_bind (tupleItemsOf_ ht ?_)
  refine wpAny_bind (wpAny_typeOf hTs ?_)
  rw [if_pos (by decide)]
  refine wpAny_bind (sliceApplied_gen hs pl pu ?_)
  have hno : ¬ ((((sIx items.size 0 lo : Nat) : Int) == 0 && (1 : Int) == 1 && (sIx items.size items.size hi - sIx items.size 0 lo) == items.size) = true) := by
    intro q
    rw [Bool.and_eq_true, Bool.and_eq_true] at q
    have q1 : ((sIx items.size 0 lo : Nat) : Int) = 0 := eq_of_beq q.1.1
    have q2 : sIx items.size items.size hi - sIx items.size 0 lo = items.size := eq_of_beq q.2
    exact hw ⟨by omega, by omega⟩
  show wpAny _ _ (if (((sIx items.size 0 lo : Nat) : Int) == 0 && (1 : Int) == 1 && (sIx items.size items.size hi - sIx items.size 0 lo) == items.size) = true then _ else _) _ _ s
  rw [if_neg hno, pick_gen]
  first
    | exact wpAny_bind (m := Builtin.Tuple.tupleExact _) (wpAny_newObj_type (wpAny_pure ⟨_, rfl, wpAny_pure h⟩) htake)
    | exact wpAny_bind (m := Builtin.Tuple.tupleExact _) (wpAny_newObj_type (wpAny_bind (wpAny_pure (wpAny_pure ⟨_, rfl, wpAny_pure h⟩))) htake)
    | exact wpAny_bind (wpAny_bind (m := Builtin.Tuple.tupleExact _) (wpAny_newObj_type (wpAny_pure (wpAny_pure ⟨_, rfl, wpAny_pure h⟩)) htake))
    | exact wpAny_bind (wpAny_bind (m := Builtin.Tuple.tupleExact _) (wpAny_newObj_type (wpAny_pure ⟨_, rfl, wpAny_pure h⟩) htake))
end
end HT

namespace L2
open PySem PySem.Spec PyProof.Rows

/-! ### the parts of a slice -/
abbrev TO := St → Hp → (Option Int → Hp → Prop) → Prop
/-- a slice's part (left out, or an int) -/
def PO (X : Cx) (e : Option Expr) (t : TO) : Prop :=
  ∀ (pins : List (Addr × Obj)) (s : Shared) (σ : St) (H : Hp) (Q : Option Int → Hp → Prop), Inv X pins σ H s → t σ H Q →
    wpAny (model X.prog X.w) X.A (evalPart e X.env) (fun u s' => ∃ o H', Inv X pins σ H' s' ∧ IsPart u o ∧ Q o H') X.xe s
def tNoPart : TO := fun _ H Q => Q none H
def tPart (t : TE) : TO := fun σ H Q => t σ H fun x H1 => ∃ i, x = .int i ∧ Q (some i) H1

theorem intsAre_of {ns : List Int} : ∀ {us : List Value}, Vals (ns.map V.int) us → IntsAre us ns := by
  induction ns with
  | nil => intro us r; rw [List.map_nil] at r; cases r; exact .nil
  | cons n ns ih =>
    intro us r
    rw [List.map_cons] at r
    cases r with
    | cons r1 r2 =>
      obtain ⟨t, e⟩ := r1
      subst e
      exact .cons n t (ih r2)

section
variable {X : Cx} {e : Expr} {te : TE} {lo hi : Option Expr} {tl th : TO} {pos p2 : Pos}

theorem po_none : PO X none tNoPart := by
  intro pins s σ H Q I h
  rw [evalPart_none]
  exact wpAny_pure ⟨none, H, I, .none, h⟩
theorem po_some (h : PE X e te) : PO X (some e) (tPart te) := by
  intro pins s σ H Q I hw
  rw [evalPart_some]
  refine thn (h pins s σ H _ I hw) fun u s1 ⟨x, H1, I1, r1, q1⟩ => ?_
  obtain ⟨i, rfl, q⟩ := q1
  obtain ⟨t, rfl⟩ := r1
  exact ⟨some i, H1, I1, .int i t, q⟩

/-- what a slice of a value is, by values: the slice object stands at sl -/
def SlR (X : Cx) (r : V → Option Int → Option Int → Hp → VK → Prop) : Prop :=
  ∀ (pins : List (Addr × Obj)) (s : Shared) (σ : St) (H : Hp) (x : V) (v vl vu : Value) (lo hi : Option Int) (sl : Addr) (Q : VK), Inv X pins σ H s → RelV x v → s.heap.IsSliceOf sl vl vu .none → IsPart vl lo → IsPart vu hi → r x lo hi H Q →
    ∃ T id, typeLookup (.type T) "__getitem__" = pure (some (.builtin id)) ∧ s.TypeIs v T ∧ wpAny (model X.prog X.w) X.A (getItem v (.ref sl)) (EP X pins σ Q) X.xe s
def tSl (r : V → Option Int → Option Int → Hp → VK → Prop) (te : TE) (tl th : TO) : TE := fun σ H Q => te σ H fun x H1 => tl σ H1 fun l H2 => th σ H2 fun u H3 => r x l u H3 Q
/-- a[lo:hi], any a -/
theorem pe_slice {r : V → Option Int → Option Int → Hp → VK → Prop} (hr : SlR X r) (he : PE X e te) (hl : PO X lo tl) (hu : PO X hi th) : PE X (.Subscript e (.Slice lo hi none p2) pos) (tSl r te tl th) := by
  intro pins s σ H Q I h
  refine Subscript_ (thn (he pins s σ H _ I h) fun v s1 ⟨x, H1, I1, r1, q1⟩ => ?_)
  refine wpAny_Slice (thn (hl pins s1 σ H1 _ I1 q1) fun vl s2 ⟨l, H2, I2, pl, q2⟩ => thn (hu pins s2 σ H2 _ I2 q2) fun vu s3 ⟨u, H3, I3, pu, q3⟩ => ?_)
  rw [evalPart_none]
  refine wpAny_pure ?_
  have I4 : Inv X pins σ H3 { s3 with heap := s3.heap.push { cls := .type "slice", data := .fields #[vl, vu, .none] } } := I3.kept (t' := s3.toks) fun b ob q => Heap.get?_push_of_some _ q
  obtain ⟨T, id, hT, ht, hg⟩ := hr pins { s3 with heap := s3.heap.push { cls := .type "slice", data := .fields #[vl, vu, .none] } } σ H3 x v vl vu l u s3.heap.objs.size Q I4 r1 (Heap.IsSliceOf.new ..) pl pu q3
  show wpAny (model X.prog X.w) X.A (subscriptTail e (.Slice lo hi none p2) v (.ref s3.heap.objs.size)) (EP X pins σ Q) X.xe { s3 with heap := s3.heap.push { cls := .type "slice", data := .fields #[vl, vu, .none] } }
  exact tail_any (ops := [.ref s3.heap.objs.size, v]) ht hT hg (by with_unfolding_all rfl)

/-- the items of xs[lo:hi] -/
def cutV (xs : List V) (lo hi : Option Int) : List V := (xs.drop (HT.sIx xs.length 0 lo)).take (HT.sIx xs.length xs.length hi - HT.sIx xs.length 0 lo)
theorem cutV_length (xs : List V) (lo hi : Option Int) : (cutV xs lo hi).length ≤ xs.length := by
  unfold cutV
  rw [List.length_take, List.length_drop]
  omega
/-- t[lo:hi], not the whole of it (the whole would be t itself) -/
def rSlT (K : PySem.W.Frag) : V → Option Int → Option Int → Hp → VK → Prop := fun x lo hi H Q => ∃ a xs, x = .ref a ∧ SqT K H a xs ∧
  ¬ (HT.sIx xs.length 0 lo = 0 ∧ HT.sIx xs.length xs.length hi = xs.length) ∧ ∀ p, H p = none → Q (.ref p) (upd H p (.tup (cutV xs lo hi)))
theorem sl_tup : SlR X (rSlT X.K) := by
  intro pins s σ H x v vl vu lo hi sl Q I rx hs pl pu h
  obtain ⟨a, xs, rfl, hx, hw, q⟩ := h
  cases rx
  obtain ⟨its, r, ht, hz⟩ := I.tuple hx
  have hlen : its.toArray.size = xs.length := by rw [List.size_toArray]; exact r.length.symm
  refine ⟨"tuple", _, PyProof.Rows.slot_tuple_getitem.lookup, ht.typeIs, ?_⟩
  refine HT.getItem_tuple_cut ht hs pl pu (by rw [hlen]; exact hw) ?_ (by rw [hlen]; exact hz)
  rw [hlen]
  refine ⟨.ref s.heap.objs.size, _, I.laid (t' := s.toks) (o := .tup (cutV xs lo hi)) (fun b ob q => Heap.get?_push_of_some _ q) (Nat.le_refl _) ?_, rfl, q _ (I.hok.fresh (Nat.le_refl _))⟩
  exact ⟨Nat.le_trans (cutV_length xs lo hi) hz, _, (r.drop (HT.sIx xs.length 0 lo)).take (HT.sIx xs.length xs.length hi - HT.sIx xs.length 0 lo), IsTup.new _ _⟩

/-! ### t < u, t + u -/
end
end L2

namespace L2
open PySem PySem.Spec PyProof.Rows

/-! ### places -/
/-- the place that an index of any sign means -/
def ixN (n : Nat) (i : Int) : Option Nat := if 0 ≤ i then (if i < n then some i.toNat else none) else if -(n : Int) ≤ i then some (i + n).toNat else none
def atI {α : Type} (xs : List α) (i : Int) : Option α := (ixN xs.length i).bind fun j => xs[j]?
theorem ixN_seq {n : Nat} {i : Int} {j : Nat} (h : ixN n i = some j) : seqIndex? i n = some j ∧ j < n ∧ -(n : Int) ≤ i ∧ i < n := by
  unfold ixN at h
  by_cases h0 : 0 ≤ i
  · rw [if_pos h0] at h
    by_cases h1 : i < n
    · rw [if_pos h1] at h
      have e : i.toNat = j := Option.some.inj h
      exact ⟨by rw [seqIndex_of h0 h1, e], by omega, by omega, h1⟩
    · rw [if_neg h1] at h; cases h
  · rw [if_neg h0] at h
    by_cases h1 : -(n : Int) ≤ i
    · rw [if_pos h1] at h
      have e : (i + n).toNat = j := Option.some.inj h
      exact ⟨by rw [seqIndex_neg (by omega) h1, e], by omega, h1, by omega⟩
    · rw [if_neg h1] at h; cases h
theorem atI_get {α : Type} {xs : List α} {i : Int} {v : α} (h : atI xs i = some v) : ∃ j, seqIndex? i xs.length = some j ∧ xs[j]? = some v ∧ j < xs.length ∧ -(xs.length : Int) ≤ i ∧ i < xs.length := by
  unfold atI at h
  cases e : ixN xs.length i with
  | none => rw [e] at h; cases h
  | some j =>
    rw [e] at h
    obtain ⟨h1, h2, h3, h4⟩ := ixN_seq e
    exact ⟨j, h1, h, h2, h3, h4⟩
theorem atI_nat {α : Type} {xs : List α} {j : Nat} {v : α} (h : xs[j]? = some v) : atI xs (j : Int) = some v := by
  have hj : j < xs.length := (List.getElem?_eq_some_iff.mp h).1
  have e : ixN xs.length (j : Int) = some j := by
    unfold ixN
    rw [if_pos (by omega), if_pos (by omega)]; simp
  unfold atI; rw [e]; exact h
theorem atI_last {α : Type} (xs : List α) (v : α) : atI (xs ++ [v]) (-1) = some v := by
  have hl : (xs ++ [v]).length = xs.length + 1 := by simp
  have e : ixN (xs ++ [v]).length (-1) = some xs.length := by
    unfold ixN
    rw [hl, if_neg (by decide), if_pos (by omega)]
    congr 1
    omega
  unfold atI
  rw [e]
  show (xs ++ [v])[xs.length]? = some v
  simp

/-! ### what may be subscripted -/
/-- what stands as an index of a plain subscript -/
def PlainIx (b : Expr) : Prop := ∀ o i, subscripted b false o i = operate [o, i] (getItem o i)
/-- a subscript by values -/
def IxR (X : Cx) (r : R2) : Prop :=
  ∀ (value slice : Expr) (pins : List (Addr × Obj)) (s : Shared) (σ : St) (H : Hp) (x y : V) (v u : Value) (Q : VK), Inv X pins σ H s → RelV x v → RelV y u → r x y H Q →
    subscripted slice false v u = operate [v, u] (getItem v u) → wpAny (model X.prog X.w) X.A (subscriptTail value slice v u) (EP X pins σ Q) X.xe s
/-- a call of a builtin's method by values: the receiver, the arguments -/
def MtR (X : Cx) (id : String) (r : V → List V → Hp → VK → Prop) : Prop :=
  ∀ (pins : List (Addr × Obj)) (s : Shared) (σ : St) (H : Hp) (x : V) (xs : List V) (v : Value) (us : List Value) (Q : VK), Inv X pins σ H s → RelV x v → Vals xs us → r x xs H Q →
    wpAny (model X.prog X.w) X.A (call (.builtin id) (v :: us)) (EP X pins σ Q) X.xe s
section
variable {X : Cx} {a b : Expr} {ta tb : TE} {pos : Pos}
/-- a[b] -/
theorem pe_ix {r : R2} (hr : IxR X r) (ha : PE X a ta) (hb : PE X b tb) (hs : PlainIx b) : PE X (.Subscript a b pos) (tOp r ta tb) := by
  intro pins s σ H Q I h
  exact Subscript_ (binT ha hb I h fun v u s2 x y H2 I2 rx ry q => hr a b pins s2 σ H2 x y v u Q I2 rx ry q (hs _ _))

def rIxL (K : PySem.W.Frag) : R2 := fun x y H Q => ∃ p xs i v, x = .ref p ∧ y = .int i ∧ SqL K H p xs ∧ atI xs i = some v ∧ Q v H
def rIxT (K : PySem.W.Frag) : R2 := fun x y H Q => ∃ p xs i v, x = .ref p ∧ y = .int i ∧ SqT K H p xs ∧ atI xs i = some v ∧ Q v H
theorem ix_list : IxR X (rIxL X.K) := by
  intro value slice pins s σ H x y v u Q I rx ry h hs
  obtain ⟨p, xs, i, z, rfl, rfl, hq, he, q⟩ := h
  cases rx
  obtain ⟨t, rfl⟩ := ry
  obtain ⟨its, r, pl, hz⟩ := I.list hq
  obtain ⟨j, h1, h2, h3, h4, h5⟩ := atI_get he
  obtain ⟨w, ew, rw'⟩ := r.get h2
  have hl := r.length
  have hn := line63
  have fin : EP X pins σ Q w s := ⟨z, H, I, rw', q⟩
  by_cases h0 : 0 ≤ i
  · have hj : i.toNat = j := by
      rw [seqIndex_of h0 h5] at h1
      exact Option.some.inj h1
    exact item_listR pl.isList h0 (by omega) (by rw [hj]; simpa using ew) fin hs
  · have hj : (i + (its.toArray.size : Int)).toNat = j := by
      rw [seqIndex_neg (by omega) h4] at h1
      rw [List.size_toArray, ← hl]
      exact Option.some.inj h1
    exact subscriptTail_builtinR (x := w) pl.isList.typeIs slot_list_getitem.lookup
      (wpAny_getItem_list_neg (Q := fun r s' => r = w ∧ EP X pins σ Q r s') pl.isList (by omega) (by rw [List.size_toArray] <;> omega) (by omega) (by rw [hj]; simpa using ew) ⟨rfl, fin⟩) hs
theorem ix_tup : IxR X (rIxT X.K) := by
  intro value slice pins s σ H x y v u Q I rx ry h hs
  obtain ⟨p, xs, i, z, rfl, rfl, hq, he, q⟩ := h
  cases rx
  obtain ⟨t, rfl⟩ := ry
  obtain ⟨its, r, pl, hz⟩ := I.tuple hq
  obtain ⟨j, h1, h2, h3, h4, h5⟩ := atI_get he
  obtain ⟨w, ew, rw'⟩ := r.get h2
  have hl := r.length
  have hn := line63
  have fin : EP X pins σ Q w s := ⟨z, H, I, rw', q⟩
  exact subscriptTail_builtinR (x := w) pl.typeIs slot_tuple_getitem.lookup
    (getItem_tuple (j := j) (Q := fun r s' => r = w ∧ EP X pins σ Q r s') pl (by omega) (by omega) (by rw [List.size_toArray, ← hl]; exact h1) (by simpa using ew) ⟨rfl, fin⟩) hs
/-! ### xs[i] = v, any sign -/
/-- the list's object behind a store -/
theorem mapSeq_set (its : List Value) (n j : Nat) (u : Value) : Obj.mapSeq (·.setIfInBounds j u) { cls := .type "list", data := .seq its.toArray n } = { cls := .type "list", data := .seq (its.set j u).toArray n } := by
  simp [Obj.mapSeq]
theorem Inv.lst {pins : List (Addr × Obj)} {σ : St} {H : Hp} {s : Shared} {p : Addr} {xs : List V} (I : Inv X pins σ H s) (h : H p = some (.lst xs)) :
    ∃ (its : List Value) (n : Nat), Vals xs its ∧ s.heap.get? p = some { cls := .type "list", data := .seq its.toArray n } ∧ xs.length ≤ sizeLine := by
  obtain ⟨z, its, n, r, e⟩ := I.hok p _ h
  exact ⟨its, n, r, e, z⟩
/-- the list at p is written by an update of its object -/
theorem Inv.lstUpd {pins : List (Addr × Obj)} {σ : St} {H : Hp} {s : Shared} {p : Addr} {xs ys : List V} {its its' : List Value} {n n' : Nat} {f : Obj → Obj} (I : Inv X pins σ H s) (h : H p = some (.lst xs))
    (ho : s.heap.get? p = some { cls := .type "list", data := .seq its.toArray n }) (hf : f { cls := .type "list", data := .seq its.toArray n } = { cls := .type "list", data := .seq its'.toArray n' }) (r : Vals ys its') (hz : ys.length ≤ sizeLine) (t : Nat) :
    Inv X pins σ (upd H p (.lst ys)) { s with heap := s.heap.update p f, toks := t } := by
  have e : (s.heap.update p f).get? p = some { cls := .type "list", data := .seq its'.toArray n' } := by
    rw [Heap.get?_update_self f ho (by rw [hf] <;> rfl), hf]
  refine I.write (x := p) (e := p) (by rw [h]; trivial) (.inl rfl) (fun b u hb q => (Heap.get?_update_other _ _ (Ne.symm hb)).trans q) ⟨_, e⟩ ?_
  exact ⟨hz, its', n', r, e⟩
def rSetL : V → V → V → Hp → (Hp → Prop) → Prop := fun o i v H Q => ∃ p xs k j, o = .ref p ∧ i = .int k ∧ H p = some (.lst xs) ∧ ixN xs.length k = some j ∧ Q (upd H p (.lst (xs.set j v)))
theorem set_list : PSet X rSetL := by
  intro pins s σ H o i v ov iv u Q I ro ri rv h
  obtain ⟨p, xs, k, j, rfl, rfl, hp, hj, q⟩ := h
  cases ro
  obtain ⟨t, rfl⟩ := ri
  obtain ⟨its, n, r, ho, hz⟩ := I.lst hp
  obtain ⟨h1, h2, h3, h4⟩ := ixN_seq hj
  have hl := r.length
  have hn := line63
  have I' : Inv X pins σ (upd H p (.lst (xs.set j v))) { s with heap := s.heap.update p (Obj.mapSeq (·.setIfInBounds j u)) } :=
    I.lstUpd hp ho (mapSeq_set its n j u) (r.set rv j) (by rw [List.length_set]; exact hz) s.toks
  by_cases h0 : 0 ≤ k
  · have hk : k.toNat = j := by
      rw [seqIndex_of h0 h4] at h1
      exact Option.some.inj h1
    exact PySem.W.ki_setAt ho h0 (by omega) (by rw [List.size_toArray, ← hl]; exact h4) (by rw [hk]; exact ⟨_, I', q⟩)
  · have hk : (k + (its.toArray.size : Int)).toNat = j := by
      rw [seqIndex_neg (by omega) h3] at h1
      rw [List.size_toArray, ← hl]
      exact Option.some.inj h1
    exact PySem.W.ki_setBack ho (by omega) (by rw [List.size_toArray, ← hl]; exact h3) (by omega) (by rw [hk]; exact ⟨_, I', q⟩)

/-! ### slices -/
theorem slice_bounds (lo hi : Option Int) (n : Nat) : (sliceBounds lo hi none n).1 = ((HT.sIx n 0 lo : Nat) : Int) ∧ (sliceBounds lo hi none n).2.1 = ((HT.sIx n n hi : Nat) : Int) ∧ (sliceBounds lo hi none n).2.2 = 1 := by
  refine ⟨?_, ?_, rfl⟩
  · cases lo with
    | none => simp [sliceBounds, HT.sIx]
    | some i =>
      simp only [sliceBounds, HT.sIx, Option.getD_none, show (1 : Int) > 0 by decide, if_true]
      by_cases h : i < 0
      · simp only [h, if_true] <;> omega
      · simp only [h, if_false] <;> omega
  · cases hi with
    | none => simp [sliceBounds, HT.sIx]
    | some i =>
      simp only [sliceBounds, HT.sIx, Option.getD_none, show (1 : Int) > 0 by decide, if_true]
      by_cases h : i < 0
      · simp only [h, if_true] <;> omega
      · simp only [h, if_false] <;> omega
theorem slicePick_cut (its : List Value) (lo hi : Option Int) : slicePick its.toArray lo hi none = ((its.drop (HT.sIx its.length 0 lo)).take (HT.sIx its.length its.length hi - HT.sIx its.length 0 lo)).toArray := by
  obtain ⟨h1, h2, h3⟩ := slice_bounds lo hi its.toArray.size
  unfold slicePick
  rw [h1, h2, h3]
  simp only [sliceRange_one, pick_run, List.size_toArray] <;> rfl
/-- xs[lo:hi] of a list: a new list -/
def rSlL (K : PySem.W.Frag) : V → Option Int → Option Int → Hp → VK → Prop := fun x lo hi H Q => ∃ a xs, x = .ref a ∧ SqL K H a xs ∧ ∀ p, H p = none → Q (.ref p) (upd H p (.lst (cutV xs lo hi)))
theorem sl_list : SlR X (rSlL X.K) := by
  intro pins s σ H x v vl vu lo hi sl Q I rx hs pl pu h
  obtain ⟨a, xs, rfl, hx, q⟩ := h
  cases rx
  obtain ⟨its, r, ht, hz⟩ := I.list hx
  have hlen := r.length
  refine ⟨"list", _, slot_list_getitem.lookup, ht.isList.typeIs, ?_⟩
  refine wpAny_getItem_list_slice ht.isList hs pl pu .none (by simp) ?_ (by rw [List.size_toArray] <;> omega)
  rw [slicePick_cut, ← hlen]
  refine ⟨.ref s.heap.objs.size, _, I.laid (t' := s.toks) (o := .lst (cutV xs lo hi)) (fun b ob q => Heap.get?_push_of_some _ q) (Nat.le_refl _) ?_, rfl, q _ (I.hok.fresh (Nat.le_refl _))⟩
  exact ⟨Nat.le_trans (cutV_length xs lo hi) hz, _, 0, (r.drop (HT.sIx xs.length 0 lo)).take (HT.sIx xs.length xs.length hi - HT.sIx xs.length 0 lo), Heap.get?_push_size _ rfl⟩

/-! ### in, not in: flat items -/
/-! ### len, list(x), tuple(x) of any list or tuple that is read -/
theorem call_len_seq : CallR X (.builtin "len") (fun xs H Q => ∃ p ys, xs = [.ref p] ∧ (SqL X.K H p ys ∨ SqT X.K H p ys) ∧ Q (.int ys.length) H) := by
  intro pins s σ H xs us Q I r h
  obtain ⟨p, ys, rfl, hq, q⟩ := h
  obtain ⟨u, rfl, rx⟩ := vals1 r
  cases rx
  have hn := line63
  rcases hq with hq | hq
  · obtain ⟨its, r', pl, hz⟩ := I.list hq
    have hlen := r'.length
    exact Calls.call_len_list pl.isList (by simp only [List.size_toArray] <;> omega) ⟨.int ys.length, H, I.tok _, ⟨s.toks + 1, by rw [List.size_toArray, hlen]⟩, q⟩
  · obtain ⟨its, r', pl, hz⟩ := I.tuple hq
    have hlen := r'.length
    exact len_tuple pl (by simp only [List.size_toArray] <;> omega) ⟨.int ys.length, H, I.tok _, ⟨s.toks + 1, by rw [List.size_toArray, hlen]⟩, q⟩
theorem call_list_of : CallR X (.type "list") (fun xs H Q => ∃ p ys, xs = [.ref p] ∧ (SqL X.K H p ys ∨ SqT X.K H p ys) ∧ ∀ l, H l = none → Q (.ref l) (upd H l (.lst ys))) := by
  intro pins s σ H xs us Q I r h
  obtain ⟨p, ys, rfl, hq, q⟩ := h
  obtain ⟨u, rfl, rx⟩ := vals1 r
  cases rx
  have fin : ∀ (its : List Value), Vals ys its → ys.length ≤ sizeLine → ∀ (h' : Heap) (c' : Nat), (∀ b o', s.heap.get? b = some o' → h'.get? b = some o') →
      h'.get? s.heap.objs.size = some { cls := .type "list", dict := none, data := .seq its.toArray c', slots := #[] } → EP X pins σ Q (.ref s.heap.objs.size) { s with heap := h' } := fun its r' hz h' c' kp e =>
    ⟨.ref s.heap.objs.size, _, I.laid (t' := s.toks) kp (Nat.le_refl _) (show ObjOk X.prog X.w _ h' _ (.lst ys) from ⟨hz, its, c', r', e⟩), rfl, q _ (I.hok.fresh (Nat.le_refl _))⟩
  rcases hq with hq | hq
  · obtain ⟨its, r', pl, hz⟩ := I.list hq
    have hlen := r'.length
    obtain ⟨o, ho, hc, n, hd⟩ := pl.isList
    exact call_list_seq p (.inl rfl) ho hc hd (fun h' c' kp e => fin its r' hz h' c' kp e) (by simp only [List.size_toArray] <;> omega)
  · obtain ⟨its, r', pl, hz⟩ := I.tuple hq
    have hlen := r'.length
    obtain ⟨o, ho, hc, n, hd⟩ := pl
    exact call_list_seq p (.inr rfl) ho hc hd (fun h' c' kp e => fin its r' hz h' c' kp e) (by simp only [List.size_toArray] <;> omega)
theorem call_tuple_of : CallR X (.type "tuple") (fun xs H Q => ∃ p ys, xs = [.ref p] ∧ ((SqL X.K H p ys ∧ ∀ l, H l = none → Q (.ref l) (upd H l (.tup ys))) ∨ (SqT X.K H p ys ∧ Q (.ref p) H))) := by
  intro pins s σ H xs us Q I r h
  obtain ⟨p, ys, rfl, h⟩ := h
  obtain ⟨u, rfl, rx⟩ := vals1 r
  cases rx
  rcases h with ⟨hq, q⟩ | ⟨hq, q⟩
  · obtain ⟨its, r', pl, hz⟩ := I.list hq
    have hlen := r'.length
    refine call_tuple_list pl.isList (fun h' kp => ?_) (by simp only [List.size_toArray] <;> omega)
    have I1 : Inv X pins σ H { s with heap := h' } := I.kept (t' := s.toks) kp
    have I2 : Inv X pins σ (upd H h'.objs.size (.tup ys)) { s with heap := h'.push { cls := .type "tuple", data := .seq its.toArray } } :=
      I1.laid (t' := s.toks) (fun b o e => Heap.get?_push_of_some _ e) (Nat.le_refl _) (show ObjOk X.prog X.w _ _ _ (.tup ys) from ⟨hz, its, r', IsTup.new _ _⟩)
    exact ⟨.ref h'.objs.size, _, I2, rfl, q _ (I1.hok.fresh (Nat.le_refl _))⟩
  · obtain ⟨its, r', pl, hz⟩ := I.tuple hq
    exact call_tuple_same pl ⟨.ref p, H, I, rfl, q⟩

/-! ### the call of a builtin's method: o.m(..) -/
/-- the value is of that builtin type -/
def tyV (K : PySem.W.Frag) (T : String) (x : V) (H : Hp) : Prop := match x with
  | .str _ => T = "str"
  | .int _ => T = "int"
  | .ref p => (T = "list" ∧ ∃ xs, SqL K H p xs) ∨ (T = "tuple" ∧ ∃ o, K.lookup p = some o ∧ o.cls = .type "tuple" ∧ o.dict = none) ∨
      (T = "dict" ∧ ((∃ kvs, H p = some (.dK kvs)) ∨ ∃ kvs, H p = some (.dT kvs))) ∨ (T = "set" ∧ ∃ S n, H p = some (.set S n))
  | _ => False
theorem tyV_is {pins : List (Addr × Obj)} {σ : St} {H : Hp} {s : Shared} {T : String} {x : V} {v : Value} (I : Inv X pins σ H s) (r : RelV x v) (ty : tyV X.K T x H) :
    s.TypeIs v T ∧ ∀ a, v = .ref a → ∃ ob, s.heap.get? a = some ob ∧ ob.dict = none := by
  cases x with
  | str z =>
    obtain ⟨t, rfl⟩ := r
    cases (show T = "str" from ty)
    exact ⟨typeIs_str s z t, fun _ e => nomatch e⟩
  | int i =>
    obtain ⟨t, rfl⟩ := r
    cases (show T = "int" from ty)
    exact ⟨typeIs_int s i t, fun _ e => nomatch e⟩
  | ref p =>
    cases r
    rcases ty with ⟨rfl, xs, hq⟩ | ⟨rfl, o, hk, hc, hd⟩ | ⟨rfl, hk⟩ | ⟨rfl, S, n, hk⟩
    · obtain ⟨its, _, pl, _⟩ := I.list hq
      refine ⟨pl.isList.typeIs, fun a e => ?_⟩
      cases e
      obtain ⟨o, n, e, c, hd, _⟩ := pl
      exact ⟨o, e, hd⟩
    · refine ⟨⟨o, I.kIn p o hk, hc⟩, fun a e => ?_⟩
      cases e
      exact ⟨o, I.kIn _ o hk, hd⟩
    · have z : ∃ o, s.heap.get? p = some o ∧ o.ExactDict := by
        rcases hk with ⟨kvs, hk⟩ | ⟨kvs, hk⟩
        · obtain ⟨_, _, _, _, o, _, _, e, ex, _⟩ := I.hok p _ hk
          exact ⟨o, e, ex⟩
        · obtain ⟨_, _, _, _, o, _, _, e, ex, _⟩ := I.hok p _ hk
          exact ⟨o, e, ex⟩
      obtain ⟨o, e, ex⟩ := z
      refine ⟨⟨o, e, ex.1⟩, fun a e2 => ?_⟩
      cases e2
      exact ⟨o, e, ex.2.1⟩
    · obtain ⟨o, _, _, _, e, ex, _⟩ := I.hok p _ hk
      refine ⟨⟨o, e, ex.1⟩, fun a e2 => ?_⟩
      cases e2
      exact ⟨o, e, ex.2.1⟩
  | _ => exact False.elim ty
def tBM (K : PySem.W.Frag) (T : String) (r : V → List V → Hp → VK → Prop) (to : TE) (t : TA) : TE := fun σ H Q => to σ H fun x H1 => tyV K T x H1 ∧ t σ H1 fun xs H2 => r x xs H2 Q
variable {o e : Expr} {es : List Expr} {to : TE} {t : TA} {name : Str} {apos cpos : Pos} {T id : String} {r : V → List V → Hp → VK → Prop}
theorem pe_bm (pa : PlainAttrs T) (slot : Slot T name id) (hty : typeOf (.builtin id) = pure (.type "method_descriptor")) (hm : MtR X id r) (ho : PE X o to) (ha : PA X (e :: es) t)
    (hbase : attributeBase o name X.env (eval o X.env) = eval o X.env := by rfl)
    (hfew : ((backTo cpos (starEach (e :: es) X.env)).all (fun x => !x.1) && (backToKw cpos (keywordEach [] X.env)).all (fun x => x.1.isSome)
      && decide ((e :: es).length + ([] : List Keyword).length + (if ([] : List Keyword).isEmpty then 0 else 1) < 30)) = true := by rfl)
    (hline : (apos.endLine == cpos.line) = true := by rfl) (hs : starEach (e :: es) X.env = (false, eval e X.env) :: starEach es X.env := by rfl) (hplain : (backTo cpos (starEach es X.env)).any (·.1) = false := by rfl) :
    PE X (.Call (.Attribute o name apos) (e :: es) [] cpos) (tBM X.K T r to t) := by
  intro pins s σ H Q I h
  refine wpAny_Call_method_late hbase hfew hline rfl (thn (ho pins s σ H _ I h) fun v s1 ⟨x, H1, I1, r1, ty, q1⟩ => ?_)
  obtain ⟨h1, h2⟩ := tyV_is I1 r1 ty
  refine ⟨T, id, pa, slot, hty, h1, h2, ?_⟩
  have hA := ha cpos pins s1 σ H1 _ I1 q1
  rw [hs] at hA ⊢
  refine Calls.callWith_builtin (by show (false || (backTo cpos (starEach es X.env)).any (·.1)) = false; rw [hplain] <;> rfl) (Calls.evalArgs_plain ?_)
  exact thn hA fun us s2 ⟨vs, H2, I2, r2, q2⟩ => hm pins s2 σ H2 x vs v us Q I2 r1 r2 q2
/- xs.append(e), list.index on a module's tuple .. are MtR facts of 06m -/
end
end L2

namespace L2
open PySem PySem.Spec PyProof.Rows

def MtM (X : Cx) (id : String) (r : V → List V → Hp → VK → Prop) : Prop :=
  ∀ (pins : List (Addr × Obj)) (s : Shared) (σ : St) (H : Hp) (x : V) (xs : List V) (v : Value) (us : List Value) (Q : VK), Inv X pins σ H s → RelV x v → Vals xs us → r x xs H Q →
    wpAny (model X.prog X.w) X.A (call (.builtin id) (v :: us)) (EP X pins σ Q) X.xe s

/-! ### lists of values -/
theorem Vals.one : ∀ {x : V} {us : List Value}, Vals [x] us → ∃ u, us = [u] ∧ RelV x u
  | _, _, .cons r .nil => ⟨_, rfl, r⟩
theorem Vals.reverse {xs : List V} {us : List Value} (h : Vals xs us) : Vals xs.reverse us.reverse := by
  induction h with
  | nil => exact .nil
  | cons r t ih => rw [List.reverse_cons, List.reverse_cons]; exact Vals.append ih (.cons r .nil)
theorem Vals.rep {xs : List V} {us : List Value} (h : Vals xs us) : ∀ k : Nat, Vals (List.replicate k xs).flatten (List.replicate k us).flatten
  | 0 => .nil
  | k + 1 => by
    rw [List.replicate_succ, List.replicate_succ, List.flatten_cons, List.flatten_cons]
    exact Vals.append h (Vals.rep h k)
theorem foldl_rep (its : List Value) : ∀ (k : Nat) (acc : List Value),
    List.foldl (fun x1 x2 => x1 ++ x2) acc.toArray (List.replicate k its.toArray) = (acc ++ (List.replicate k its).flatten).toArray
  | 0, acc => by simp
  | k + 1, acc => by
    have e : acc.toArray ++ its.toArray = (acc ++ its).toArray := by simp
    have e2 : (acc ++ its) ++ (List.replicate k its).flatten = acc ++ (List.replicate (k + 1) its).flatten := by
      rw [List.replicate_succ, List.flatten_cons, List.append_assoc]
    rw [← e2, ← foldl_rep its k (acc ++ its), ← e, List.replicate_succ, List.foldl_cons]

section
variable {X : Cx} {pins : List (Addr × Obj)} {σ : St} {H : Hp} {s : Shared} {l b : Addr} {xs ys zs : List V}

/-! ### the two steps: a tracked list is rewritten, a new list is laid -/
theorem Inv.lset {its its' : List Value} {n : Nat} {f : Array Value → Array Value} {t' : Nat} (I : Inv X pins σ H s) (hH : H l = some (.lst xs))
    (e : s.heap.get? l = some { cls := .type "list", data := .seq its.toArray n }) (hf : f its.toArray = its'.toArray) (hv : Vals ys its') (hz : ys.length ≤ sizeLine) :
    Inv X pins σ (upd H l (.lst ys)) { s with heap := s.heap.update l (Obj.mapSeq f), toks := t' } := by
  have q := PySem.IsL.update e f
  rw [hf] at q
  refine I.write (x := l) (e := l) (by rw [hH]; exact trivial) (.inl rfl) (fun b' u hb hu => (Heap.get?_update_other s.heap (Obj.mapSeq f) (Ne.symm hb)).trans hu) ⟨_, q⟩ ?_
  exact ⟨hz, its', _, hv, q⟩
theorem Inv.lnew {its : List Value} {t' : Nat} (I : Inv X pins σ H s) (hv : Vals ys its) (hz : ys.length ≤ sizeLine) :
    Inv X pins σ (upd H s.heap.objs.size (.lst ys)) { s with heap := s.heap.push { cls := .type "list", data := .seq its.toArray }, toks := t' } :=
  I.laid (fun _ _ q => Heap.get?_push_of_some _ q) (Nat.le_refl _) ⟨hz, its, 0, hv, Heap.get?_push_size _ rfl⟩
theorem Inv.fresh (I : Inv X pins σ H s) : H s.heap.objs.size = none := I.hok.fresh (Nat.le_refl _)
theorem Inv.lstM (I : Inv X pins σ H s) (hH : H l = some (.lst xs)) : xs.length ≤ sizeLine ∧ ∃ (its : List Value) (n : Nat), Vals xs its ∧ xs.length = its.length ∧ s.heap.get? l = some { cls := .type "list", data := .seq its.toArray n } := by
  obtain ⟨z, its, n, r, e⟩ := I.hok l _ hH
  exact ⟨z, its, n, r, r.length, e⟩

theorem notLongL {n : Nat} (h : n ≤ sizeLine) : Builtin.List.listTooLong n = false := by
  unfold Builtin.List.listTooLong
  exact decide_eq_false (by omega)
end

section
variable {X : Cx}

/-! ### methods -/
def rAppend : V → List V → Hp → VK → Prop := fun x vs H Q => ∃ l xs y, x = .ref l ∧ vs = [y] ∧ H l = some (.lst xs) ∧ xs.length < sizeLine ∧ Q .non (upd H l (.lst (xs ++ [y])))
theorem mt_append : MtM X "list.append" rAppend := by
  intro pins s σ H x vs v us Q I rx rv h
  obtain ⟨l, xs, y, rfl, rfl, hH, hz, q⟩ := h
  cases rx
  obtain ⟨u, rfl, ru⟩ := rv.one
  obtain ⟨z, its, n, r, hl, e⟩ := I.lstM hH
  refine call_meets F.slot_list_append ⟨_, e, rfl⟩ F.entry_list_append (F.args_list_append_2 _ _) (PySem.list_append l its.toArray n u (by rw [List.size_toArray]; omega)) ⟨e, ?_⟩
  refine ⟨.non, _, I.lset (its' := its ++ [u]) hH e (by simp) (r.append (.cons ru .nil)) ?_, rfl, q⟩
  rw [List.length_append, List.length_singleton]
  omega

def rExtend : V → List V → Hp → VK → Prop := fun x vs H Q => ∃ l b xs zs, x = .ref l ∧ vs = [.ref b] ∧ H l = some (.lst xs) ∧ H b = some (.lst zs) ∧ xs.length + zs.length ≤ sizeLine ∧ Q .non (upd H l (.lst (xs ++ zs)))
theorem mt_extend : MtM X "list.extend" rExtend := by
  intro pins s σ H x vs v us Q I rx rv h
  obtain ⟨l, b, xs, zs, rfl, rfl, hH, hB, hz, q⟩ := h
  cases rx
  obtain ⟨u, rfl, ru⟩ := rv.one
  cases ru
  obtain ⟨z, its, n, r, hl, e⟩ := I.lstM hH
  obtain ⟨z2, its2, n2, r2, hl2, e2⟩ := I.lstM hB
  have hsz : its.toArray.size + its2.toArray.size ≤ sizeLine := by rw [List.size_toArray, List.size_toArray]; omega
  have hlong : ¬ (!its.toArray.isEmpty && Builtin.List.listTooLong (its.toArray.size + its2.toArray.size)) = true := by
    rw [notLongL hsz, Bool.and_false]
    exact Bool.false_ne_true
  refine call_meets F.slot_list_extend ⟨_, e, rfl⟩ F.entry_list_extend (F.args_list_extend_2 _ _)
    (AutoSeq1.list_extend_list_list_0 l its.toArray n b its2.toArray n2 hlong (by rw [List.size_toArray]; omega) (by omega)) ⟨e, e2, ?_⟩
  refine ⟨.non, _, I.lset (its' := its ++ its2) hH e (by simp) (r.append r2) ?_, rfl, q⟩
  rw [List.length_append]
  omega

/-! ### list + list, list += list, list * int -/
def rCat : R2 := fun x y H Q => ∃ l b xs zs, x = .ref l ∧ y = .ref b ∧ H l = some (.lst xs) ∧ H b = some (.lst zs) ∧ xs.length + zs.length ≤ sizeLine ∧ ∀ p, H p = none → Q (.ref p) (upd H p (.lst (xs ++ zs)))
theorem op_cat : OpR X (binaryOp .Add) rCat := by
  intro pins s σ H x y v u Q I rx ry h
  obtain ⟨l, b, xs, zs, rfl, rfl, hH, hB, hz, q⟩ := h
  cases rx
  cases ry
  obtain ⟨z, its, n, r, hl, e⟩ := I.lstM hH
  obtain ⟨z2, its2, n2, r2, hl2, e2⟩ := I.lstM hB
  refine PySem.P.add_list e e2 ?_ (by rw [List.size_toArray, List.size_toArray]; omega)
  have ea : its.toArray ++ its2.toArray = (its ++ its2).toArray := by simp
  rw [ea]
  exact ⟨.ref _, _, I.lnew (t' := s.toks) (r.append r2) (by rw [List.length_append]; omega), rfl, q _ I.fresh⟩
/-- a list times an int (a negative one is nothing) -/
def rRep : R2 := fun x y H Q => ∃ l k xs, x = .ref l ∧ y = .int k ∧ H l = some (.lst xs) ∧ -(2 ^ 63) ≤ k ∧ k < 2 ^ 63 ∧ xs.length * k.toNat ≤ sizeLine ∧
  ∀ p, H p = none → Q (.ref p) (upd H p (.lst (List.replicate k.toNat xs).flatten))
theorem len_rep {α : Type} (xs : List α) (k : Nat) : (List.replicate k xs).flatten.length = k * xs.length := by
  induction k with
  | zero => simp
  | succ k ih => rw [List.replicate_succ, List.flatten_cons, List.length_append, ih, Nat.succ_mul, Nat.add_comm]
theorem op_rep : OpR X (binaryOp .Mult) rRep := by
  intro pins s σ H x y v u Q I rx ry h
  obtain ⟨l, k, xs, rfl, rfl, hH, h1, h2, hz, q⟩ := h
  cases rx
  obtain ⟨t, rfl⟩ := ry
  obtain ⟨z, its, n, r, hl, e⟩ := I.lstM hH
  have hlen : its.toArray.size * k.toNat ≤ sizeLine := by rw [List.size_toArray, ← hl]; exact hz
  have hcap : ¬ its.toArray.size * k.toNat > (2 ^ 63 - 1) / 8 := by
    have : (sizeLine : Nat) ≤ (2 ^ 63 - 1) / 8 := by decide
    omega
  have hfit : ¬ (!Builtin.List.listFitsIndex k) = true := by
    rw [fitsIndex_both h1 h2]
    exact Bool.false_ne_true
  have hlong : ¬ Builtin.List.listTooLong (its.toArray.size * k.toNat) = true := by
    rw [notLongL hlen]
    exact Bool.false_ne_true
  have hnew : List.foldl (fun x1 x2 => x1 ++ x2) #[] (List.replicate (if its.toArray.isEmpty = true then 0 else k.toNat) its.toArray) = (List.replicate k.toNat its).flatten.toArray := by
    have f0 : ∀ m : Nat, List.foldl (fun x1 x2 => x1 ++ x2) #[] (List.replicate m its.toArray) = (List.replicate m its).flatten.toArray := fun m => by
      have := foldl_rep its m []
      rw [List.nil_append] at this
      exact this
    rw [f0]
    cases its with
    | nil => simp
    | cons a r' => rw [if_neg (by simp)]
  refine wpAny_binaryOp_repeat_ref (T := "list") (U := "int") (by decide) ⟨_, e, rfl⟩ (fun s' => typeIs_int s' k t) noFill_list_mul F.fills_int_mul F.slot_int_rmul repeat_list F.slot_int_index.lookup
    (call_meets F.slot_int_rmul (typeIs_int s k t) F.entry_int_rmul (F.args_int_rmul_2 _ _) (int___rmul___int_list k t l its.toArray n)
      ⟨e, rfl, ⟨_, e, rfl⟩, call_meets F.slot_list_mul ⟨_, e, rfl⟩ F.entry_list_mul (F.args_list_mul_2 _ _) (AutoListH.list___mul___list_int_3 l its.toArray n k t hfit hcap hlong) ⟨e, ?_⟩⟩)
  rw [hnew]
  exact ⟨.ref _, _, I.lnew (t' := s.toks) (r.rep k.toNat) (by rw [len_rep, Nat.mul_comm]; exact hz), rfl, q _ I.fresh⟩

/-! ### del xs[i] -/
end

/-! ### xs[a:b] = ys -/
section
variable {prog : Program} {w : World} {A : Around} {E : Value → Shared → Prop} {s : Shared}
end

section
variable {X : Cx}
end
end L2

namespace Att
open PySem PySem.W PySem.Calls PyProof.Rows

/-! ### the script -/
theorem ints_of_wellAll {P : Params} {h : Heap} : ∀ (ns : List Int) (vs : List Value), WellAll P h vs (ns.map WData.int) → IntsAre vs ns := by
  intro ns
  induction ns with
  | nil =>
    intro vs w
    rw [List.map_nil] at w
    cases w
    exact .nil
  | cons n ns ih =>
    intro vs w
    rw [List.map_cons] at w
    cases w with
    | cons a b =>
      cases a
      exact .cons _ _ (ih _ b)

theorem script_of {l : OpenLaw} {n : Nat} (hn : l.most = some n) {P : Params} {h : Heap} {args : List WData} {vals : List Value}
    (hpre : l.row.toRowW.claim.pre args = true) (hwl : WellAll P h vals args) :
    ∃ a vs ns, vals = [Value.ref a] ∧ args = [WData.list (ns.map WData.int)] ∧ h.get? a = some { cls := .type "list", data := .seq vs.toArray } ∧ IntsAre vs ns ∧ ns.length ≤ n := by
  have hsh : WShape.hasAll [] args [.list .int] = true := (pre_splitW hpre).1
  have hc : l.pre.holds [] { args := args } = true := (pre_splitW hpre).2
  obtain ⟨d, r, rfl, h1, h2⟩ := hasAllW_cons hsh
  obtain rfl := hasAllW_nil h2
  obtain ⟨xs, rfl, h3⟩ := hasW_list h1
  obtain ⟨ns, rfl⟩ := items_int h3
  have hlen : ns.length ≤ n := by
    unfold OpenLaw.pre at hc
    have h4 : (WTm.not (.lt (.lit (.int (n : Int))) (.len (.arg 0)))).holds [] { args := [.list (ns.map .int)] } = true := by
      have h4 := (holds_andW hc).1
      rw [hn] at h4
      exact h4
    have h5 := condW_of h4 (w_not (w_lt w_lit (w_len_list (w_arg rfl))))
    rw [List.length_map] at h5
    refine Nat.le_of_not_lt fun q => ?_
    have q' : (n : Int) < ((ns.length : Nat) : Int) := by omega
    first
      | (rw [decide_eq_true q'] at h5; exact absurd h5 (by decide))
      | (simp at h5; omega)
  cases hwl with
  | cons w1 w2 =>
    cases w2
    cases w1 with
    | list ho hall => exact ⟨_, _, ns, rfl, rfl, ho, ints_of_wellAll ns _ hall, hlen⟩

theorem post_true (l : OpenLaw) (args : List WData) : l.row.toRowW.claim.post args (.bool true) args = true :=
  postW_of (r := l.row.toRowW) (X := (true == true))
    (show WShape.has [] (.bool true) .bool = true by first | rfl | decide | simp [WShape.has, WShape.arms, WShape.armsAll])
    (show (WTm.eq .res (.lit (.bool true))).value [] { args := args, res := some (.bool true), after := args } = some (.bool (true == true)) from w_eq_bool (w_res rfl) w_lit) rfl

/-! ### the attachment: holds_open's last premise (the goal 'hc' behind k_head) from a wpAny of the law's body -/
/-- the same from a codeAny of the CALL (for a layer whose function contracts speak of calls) -/
theorem attach_call {l : OpenLaw} {n : Nat} {q : Program} {loose : List Str} {XP : (Str → Option Value) → Heap → Prop} {YP : World → Heap → Prop} {d : DefRec}
    (hn : l.most = some n) (hdf : d.params.defaults = [])
    (call : ∀ (w : World) (s₀ s₁ : Shared) (mg mb : Str → Option Value) (fa : Addr) (o : Obj) (pm cd doc : Value) (a : Addr) (vs : List Value) (ns : List Int),
      Ground q loose [] XP w s₀ mg mb s₁.heap → YP w s₁.heap →
      s₁.heap.get? fa = some o → o.data = .func (docDef d.name d.params d.body d.scope pm cd doc) → s₁.heap.CodeRec cd d.name → mg d.name = some (.ref fa) →
      s₁.heap.get? a = some { cls := .type "list", data := .seq vs.toArray } → IntsAre vs ns → ns.length ≤ n → s₁.gens = #[] →
      codeAny (model l.prog w) callerA (.call (.ref fa) ⟨[.ref a], []⟩) (fun r s' => r = .ok (.ret (.bool true)) ∧ OldK s₁.heap s'.heap ∧ s'.os = s₁.os ∧ AllBare s'.gens) s₁) :
    WalkO q loose XP YP l.row.toRowW d [] (fun f vs => PySem.call f vs) := by
  intro w s₀ s₁ mg mb G Y fa o pm cd doc dV kV ho hd hcd hD hmg hg args vals as hpre hlay hrd hwl hlo
  obtain rfl : dV = .none := Dflts.none hD hdf
  obtain rfl : kV = .none := Dflts.noKw hD
  obtain ⟨a, vs, ns, rfl, rfl, hobj, hints, hlen⟩ := script_of hn hpre hwl
  refine enter_call (codeAny_mono (call w s₀ s₁ mg mb fa o pm cd doc a vs ns G Y ho (fd_plain hd) hcd hmg hobj hints hlen hg) fun r s' hq => ?_)
  obtain ⟨rfl, h2, h3, h4⟩ := hq
  exact ⟨.inl ⟨.bool true, .bool true, [], rfl, fun _ => rfl, .bool true, post_true l _, fun _ => ⟨List.Pairwise.nil, fun _ hm => (nomatch hm)⟩⟩, h2, h3, h4⟩

/-! ### rules over ANY heap (no ledger) from facts about the written part K: the library's own take a ledger (News) for what they write -/
section
variable {prog : Program} {w : World} {A : Around} {E : Value → Shared → Prop} {s : Shared} {K : Frag}

/-! the whole heap as the ledger: makes every rule that writes through a ledger a rule over any heap -/
end
end Att

namespace L2
open PySem PySem.Spec PyProof.Rows

theorem vals_ints : ∀ {vs : List Value} {ns : List Int}, IntsAre vs ns → Vals (ns.map V.int) vs
  | _, _, .nil => .nil
  | _, _, .cons n t h => .cons ⟨t, rfl⟩ (vals_ints h)

end L2

namespace L2
open PySem PySem.Spec PyProof.Rows

end L2

/- THE LAST THEOREM (shape; LID, My.* are yours):
   My.Adr: a structure of the addresses that your layer names (classes, functions); My.Txt K t: a structure (Prop) of the equations over K;
   My.txt_mk : {K} {implicit addresses ..} (e1 : nsIn K mainGlobals "law" = some (some (.ref f))) (e2 : K.lookup f = some ⟨oc, od, .func (fnOf "law" "law" params body scope dV kV doc pm an cdv ct), sl⟩) (e3 : codeIn K cdv "law" = true) .. : ∃ t, My.Txt K t

set_option maxRecDepth 100000 in
set_option maxHeartbeats 0 in
theorem PySem.Challenge.cw_LID_holds : PySem.Challenge.rw_LID.Holds := by
  w_on; o_law; k_head; (case hw => w_witness2)
  k_fill
  refine L2.walk_of (l := PySem.Challenge.rw_LID) (n := 63) (k := 40) (x := "script") (CX := fun w => ..) (sp := fun _ => My.sp_law) rfl (by decide) rfl ⟨rfl, by decide, by decide⟩ (fun w h Y => PySem.W.kIn_of Y) ?F ?S ?C
  case F =>
    intro w mg fa h KX G hmg
    have T : ∃ t, My.Txt (L2.KOf KX) t := by
      dsimp only [L2.KOf]                          -- K must stand as «<heap const> w.params» for k_is
      refine' My.txt_mk ?e1 ?e2 ?e3 ..
      (case e1 => PySem.W.k_is)                    -- in the order: a name -> its address -> its object -> its parts
      (case e2 => PySem.W.k_is)
      ..
    obtain ⟨t, T⟩ := T
    have e0 := hmg.symm.trans (PySem.W.mg_of KX G T.law)
    cases e0                                       -- fa is the law's own address
    exact ⟨_, fun s u => .of_eq rfl, fun base kb nb => My.law_fn T kb nb⟩     -- if «.of_eq rfl» comes too early: refine' ⟨_, ?b, fun base kb nb => My.law_fn T kb nb⟩; exact fun s u => .of_eq rfl
  case S => exact fun w H a ns hl hO hS => ..
  case C => exact ..
(the tactic k_is has no namespace: write k_is) -/

/-! SHORT WORDS over the layer: a def of the text, its body, what a loop and a test want. -/
namespace L2
open PySem PySem.Spec PyProof.Rows

/-! ### the text by places -/
def defArgs (s : Stmt) : Arguments := match s with
  | .FunctionDef _ a _ _ _ _ _ _ _ _ => a
  | _ => { posonlyargs := [], args := [], vararg := none, kwonlyargs := [], kw_defaults := [], kwarg := none, defaults := [] }
def defBody (s : Stmt) : List Stmt := match s with
  | .FunctionDef _ _ b _ _ _ _ _ _ _ => b
  | _ => []
def defScope (s : Stmt) : Scope := match s with
  | .FunctionDef _ _ _ _ _ _ sc _ _ _ => sc
  | _ => { kind := .function, names := [], isGenerator := false, isCoroutine := false }

/-! ### no exception leaves a def -/
abbrev CX0 : CXT := fun _ _ _ _ _ _ => False
abbrev E0 : XK := fun _ _ _ => False
theorem pass0 {X : Cx} : Passes CX0 X E0 := fun _ _ _ _ _ _ _ h => h.elim

/-! ### a def (or method) of the text as it stands behind the top -/
structure Fun (K : PySem.W.Frag) (x qual : Str) (st : Stmt) (f : Addr) (fd : FuncData) : Prop where
  ex : ∃ (oc : Value) (od : Option Addr) (kV doc pm : Value) (an : Option Addr) (cdv ct : Value) (osl : Array (Option Value)),
    fd = PySem.W.fnOf x qual (defArgs st) (defBody st) (defScope st) .none kV doc pm an cdv ct ∧ K.lookup f = some ⟨oc, od, .func fd, osl⟩ ∧ PySem.W.codeIn K cdv qual = true
  kp : PySem.W.keepIn K (.ref f) = true
section
variable {P : Program} {w : World} {K : PySem.W.Frag} {mg : Str → Option Value} {base : Heap}
/-- THE RULE for a def: its body as a term of rules, and the reading of that term -/
theorem Fun.ok {x qual : Str} {st : Stmt} {f : Addr} {fd : FuncData} {N ps : List Str} {k : Nat} {sp : Sp} (F : Fun K x qual st f fd) (S : FnScope N ps (defScope st)) (len : ∀ vs H Q E, sp vs H Q E → vs.length = ps.length)
    (hbody : ∀ (cdv : Value) (A : Around) (outer : List Env) (s : Shared) (H : Hp) (vs : List V) (Q : VK) (E : XK), Room k (A.deeper (envOfC qual (defScope st) s.heap.objs.size f cdv)) → sp vs H Q E →
      ∃ t, PSs (cxOf CX0 P w K mg base N qual (defScope st) f cdv A outer s H E).nox (defBody st) t ∧ t { nx := fun _ H' => Q .non H', rt := Q } (start N vs) H) : FnOk P w K mg base CX0 (k + 1) f fd ps sp := by
  obtain ⟨oc, od, kV, doc, pm, an, cdv, ct, osl, rfl, lk, hcd⟩ := F.ex
  refine fn_of lk hcd S len fun A outer s H vs Q E hr hsp => ?_
  obtain ⟨t, h, q⟩ := hbody cdv A outer s H vs Q E hr hsp
  exact ⟨t, h.nox, q⟩
/-- how its arguments bind (no defaults): h is «fun _ _ _ _ _ _ us hl => match us, hl with | [_, _], _ => rfl», one _ a parameter -/
theorem Fun.binds {x qual : Str} {st : Stmt} {f : Addr} {fd : FuncData} {ps : List Str} (F : Fun K x qual st f fd)
    (h : ∀ (kV doc pm : Value) (an : Option Addr) (cdv ct : Value) (us : List Value), us.length = ps.length → bindArgs (PySem.W.fnOf x qual (defArgs st) (defBody st) (defScope st) .none kV doc pm an cdv ct) ⟨us, []⟩ = pure (ps.zip us)) : Binds K fd ps [] := by
  obtain ⟨oc, od, kV, doc, pm, an, cdv, ct, osl, rfl, lk, hcd⟩ := F.ex
  exact .all (h kV doc pm an cdv ct)
theorem fun_mk {x qual : Str} {st : Stmt} {f : Addr} {oc : Value} {od an : Option Addr} {osl : Array (Option Value)} {kV doc pm cdv ct : Value} (l : K.lookup f = some ⟨oc, od, .func (PySem.W.fnOf x qual (defArgs st) (defBody st) (defScope st) .none kV doc pm an cdv ct), osl⟩)
    (c : PySem.W.codeIn K cdv qual = true) (k : PySem.W.keepIn K (.ref f) = true) : Fun K x qual st f (PySem.W.fnOf x qual (defArgs st) (defBody st) (defScope st) .none kV doc pm an cdv ct) := ⟨⟨oc, od, kV, doc, pm, an, cdv, ct, osl, rfl, l, c⟩, k⟩
end
/-! ### expressions in short: the name that stands in the i-th slot -/
section
variable {X : Cx}
theorem pv (i : Nat) {x : Str} {pos : Pos} (hN : X.N[i]? = some x := by rfl) (hv : Vis X.env.scope x := by first | exact Or.inl rfl | exact Or.inr (Or.inl rfl) | exact Or.inr (Or.inr rfl)) (hd : (x == ("__debug__" : Str)) = false := by decide)
    (hcd : (x == ("__classdict__" : Str)) = false := by decide) : PE X (.Name x pos) (tVar i) := pe_var hN hv hd hcd
end

/-! ### tests -/
theorem iteF {A B : Prop} (h : B) : if false = true then A else B := by
  rw [if_neg Bool.false_ne_true]
  exact h
theorem iteT {A B : Prop} (h : A) : if true = true then A else B := by
  rw [if_pos rfl]
  exact h
theorem ite2 {c A B : Prop} [Decidable c] (h1 : c → A) (h2 : ¬ c → B) : if c then A else B := by
  by_cases h : c
  · rw [if_pos h]
    exact h1 h
  · rw [if_neg h]
    exact h2 h
theorem iteNS {c A B : Prop} [Decidable c] (hc : c) (h : B) : if (!decide c) = true then A else B := by
  rw [decide_eq_true hc]
  exact iteF h

/-! ### heaps -/
/-- all that was tracked is as it was -/
def Same (H H' : Hp) : Prop := ∀ b o, H b = some o → H' b = some o
theorem Same.refl (H : Hp) : Same H H := fun _ _ h => h
theorem Same.trans {H H1 H2 : Hp} (a : Same H H1) (b : Same H1 H2) : Same H H2 := fun c o h => b c o (a c o h)
theorem Same.free {H H' : Hp} (e : Same H H') {l : Addr} (h : H' l = Option.none) : H l = Option.none := by
  cases q : H l with
  | none => rfl
  | some o =>
    rw [e l o q] at h
    cases h
theorem Same.seq {K : PySem.W.Frag} {H H' : Hp} {a : Addr} {xs : List V} (e : Same H H') (h : SqL K H a xs) : SqL K H' a xs := by
  rcases h with (h | ⟨o, h⟩) | h
  · exact .inl (.inl (e _ _ h))
  · exact .inl (.inr ⟨o, e _ _ h⟩)
  · exact .inr h

end L2

set_option maxHeartbeats 4000000
set_option Elab.async false
set_option linter.all false
set_option maxRecDepth 100000
set_option maxHeartbeats 4000000
namespace Tw
open PySem L2
/-! what all laws use: a def of the text, heaps -/
theorem same_new {H : Hp} {p : Addr} (h : H p = none) (o : HO) : Same H (upd H p o) := fun b u q => by rw [upd_ne (ne_of_none q h)]; exact q
theorem same_set {H H' : Hp} {p : Addr} (s : Same H H') (h : H p = none) (o : HO) : Same H (upd H' p o) := fun b u q => by rw [upd_ne (ne_of_none q h)]; exact s b u q
theorem small {n : Nat} (h : n ≤ 4097) : n < sizeLine := Nat.lt_of_le_of_lt h (by decide)
theorem bt_len : bootBuiltins "len" = some (.builtin "len") := by decide +kernel
theorem bt_sum : bootBuiltins "sum" = some (.builtin "sum") := by decide +kernel
theorem bt_isinstance : bootBuiltins "isinstance" = some (.builtin "isinstance") := by decide +kernel
theorem bt_min : bootBuiltins "min" = some (.builtin "min") := by decide +kernel
theorem bt_int : bootBuiltins "int" = some (.type "int") := by decide +kernel
theorem bt_bool : bootBuiltins "bool" = some (.type "bool") := by decide +kernel
theorem bt_list : bootBuiltins "list" = some (.type "list") := by decide +kernel
theorem bt_tuple : bootBuiltins "tuple" = some (.type "tuple") := by decide +kernel
theorem bt_reversed : bootBuiltins "reversed" = some (.type "reversed") := by decide +kernel
theorem bt_zip : bootBuiltins "zip" = some (.type "zip") := by decide +kernel
/-- slices of lists of ints by natural numbers -/
theorem cut_nat (ns : List Int) (i j : Nat) : cutV (ns.map V.int) (some (i : Int)) (some (j : Int)) = ((ns.drop i).take (j - i)).map V.int := by
  unfold cutV
  rw [HT.sIx_nat, HT.sIx_nat, List.map_take, List.map_drop, List.length_map]
  rcases Nat.lt_or_ge ns.length i with h | h
  · rw [Nat.min_eq_right (Nat.le_of_lt h), List.drop_of_length_le (by simp), List.drop_of_length_le (by simp; omega)]
    simp
  · rw [Nat.min_eq_left h]
    rcases Nat.lt_or_ge ns.length j with q | q
    · rw [Nat.min_eq_right (Nat.le_of_lt q), List.take_of_length_le (by simp), List.take_of_length_le (by simp; omega)]
    · rw [Nat.min_eq_left q]
theorem cut_to (ns : List Int) (j : Nat) : cutV (ns.map V.int) none (some (j : Int)) = (ns.take j).map V.int := by
  unfold cutV
  rw [HT.sIx_nat, HT.sIx_none, List.map_take, List.length_map, List.drop_zero, Nat.sub_zero]
  rcases Nat.lt_or_ge ns.length j with q | q
  · rw [Nat.min_eq_right (Nat.le_of_lt q), List.take_of_length_le (by simp), List.take_of_length_le (by simp; omega)]
  · rw [Nat.min_eq_left q]
theorem cut_from (ns : List Int) (i : Nat) : cutV (ns.map V.int) (some (i : Int)) none = (ns.drop i).map V.int := by
  unfold cutV
  rw [HT.sIx_nat, HT.sIx_none, List.map_drop, List.length_map]
  rcases Nat.lt_or_ge ns.length i with h | h
  · rw [Nat.min_eq_right (Nat.le_of_lt h), List.drop_of_length_le (by simp), List.drop_of_length_le (by simp; omega)]
    simp
  · rw [Nat.min_eq_left h, List.take_of_length_le (by simp)]
/-- an item of a list of ints -/
theorem int_at {ns : List Int} {i : Nat} {x : V} (h : (ns.map V.int)[i]? = some x) : ∃ c, ns[i]? = some c ∧ x = .int c := by
  rw [List.getElem?_map] at h
  cases e : ns[i]? with
  | none => rw [e] at h; cases h
  | some c => rw [e] at h; exact ⟨c, rfl, (Option.some.inj h).symm⟩
theorem atI_int {ns : List Int} {i : Nat} {c : Int} (h : ns[i]? = some c) : atI (ns.map V.int) (i : Int) = some (.int c) := atI_nat (by rw [List.getElem?_map, h]; rfl)
structure Df (K : PySem.W.Frag) (mg : Str → Option Value) (x : Str) (st : Stmt) (ps : List Str) (f : Addr) (fd : FuncData) : Prop where
  F : Fun K x x st f fd
  b : Binds K fd ps []
  m : mg x = some (.ref f)
end Tw

set_option Elab.async false
set_option linter.all false
set_option maxRecDepth 100000
set_option maxHeartbeats 4000000
namespace Tw
/-- bit k of a block -/
def bit (b : Int) (k : Nat) : Int := b / 2 ^ k % 2
/-- the first n bits -/
def bits (b : Int) (n : Nat) : List Int := (List.range n).map (bit b)
/-- the ones among the first n bits -/
def ones (b : Int) (n : Nat) : Int := (bits b n).sum
theorem bits_length (b : Int) (n : Nat) : (bits b n).length = n := by simp [bits]
theorem bits_succ (b : Int) (n : Nat) : bits b (n + 1) = bits b n ++ [bit b n] := by simp [bits, List.range_succ]
theorem ones_zero (b : Int) : ones b 0 = 0 := rfl
theorem ones_succ (b : Int) (n : Nat) : ones b (n + 1) = ones b n + bit b n := by
  unfold ones; rw [bits_succ]; simp
theorem bits_get {b : Int} {n k : Nat} (h : k < n) : (bits b n)[k]? = some (bit b k) := by simp [bits, h]
theorem bit_cases (b : Int) (k : Nat) : bit b k = 0 ∨ bit b k = 1 := by
  unfold bit
  omega
theorem half_half (b : Int) (k : Nat) : b / 2 ^ k / 2 = b / 2 ^ (k + 1) := by
  rw [Int.ediv_ediv_of_nonneg (Int.pow_nonneg (by decide)), Int.pow_succ]
end Tw

set_option Elab.async false
set_option linter.all false
set_option maxRecDepth 100000
set_option maxHeartbeats 4000000
namespace Tw
/-! rows of bits, blocks, nets: the plain mathematics -/
def IsBits (ns : List Int) : Prop := ∀ b ∈ ns, b = 0 ∨ b = 1
theorem IsBits.tail {b : Int} {ns : List Int} (h : IsBits (b :: ns)) : IsBits ns := fun x hx => h x (.tail _ hx)
theorem IsBits.head {b : Int} {ns : List Int} (h : IsBits (b :: ns)) : b = 0 ∨ b = 1 := h b (.head _)
theorem IsBits.take {ns : List Int} (h : IsBits ns) (k : Nat) : IsBits (ns.take k) := fun x hx => h x (List.mem_of_mem_take hx)
theorem IsBits.drop {ns : List Int} (h : IsBits ns) (k : Nat) : IsBits (ns.drop k) := fun x hx => h x (List.mem_of_mem_drop hx)
theorem isBits_append {a b : List Int} (ha : IsBits a) (hb : IsBits b) : IsBits (a ++ b) := fun x hx => by
  rcases List.mem_append.mp hx with h | h
  · exact ha x h
  · exact hb x h
/-- the block of a list of bits -/
def blk : List Int → Int
  | [] => 0
  | b :: r => 2 * blk r + b
theorem blk_nonneg : ∀ {ns : List Int}, IsBits ns → 0 ≤ blk ns
  | [], _ => by simp [blk]
  | b :: r, h => by
    have := blk_nonneg h.tail
    have := h.head
    simp only [blk]
    omega
theorem bit_zero (b : Int) : bit b 0 = b % 2 := by simp [bit]
theorem bit_succ' (b : Int) (k : Nat) : bit b (k + 1) = bit (b / 2) k := by
  unfold bit
  rw [Int.ediv_ediv_of_nonneg (by decide), ← Int.pow_succ']
theorem bit_blk : ∀ {ns : List Int}, IsBits ns → ∀ k : Nat, bit (blk ns) k = (ns[k]?).getD 0
  | [], _, k => by simp [blk, bit]
  | b :: r, h, 0 => by
    have := h.head
    rw [bit_zero]
    simp only [blk, List.getElem?_cons_zero, Option.getD_some]
    omega
  | b :: r, h, k + 1 => by
    have hb := h.head
    rw [bit_succ', List.getElem?_cons_succ]
    have e : blk (b :: r) / 2 = blk r := by simp only [blk]; omega
    rw [e]
    exact bit_blk h.tail k
theorem ones_blk {ns : List Int} (h : IsBits ns) : ∀ k : Nat, ones (blk ns) k = (ns.take k).sum
  | 0 => by simp [ones_zero]
  | k + 1 => by
    rw [ones_succ, ones_blk h k, bit_blk h]
    by_cases hk : k < ns.length
    · rw [List.take_add_one, List.getElem?_eq_getElem hk]
      simp only [Option.toList_some, List.sum_append, List.sum_cons, List.sum_nil, Option.getD_some]
      omega
    · rw [List.take_of_length_le (by omega), List.take_of_length_le (by omega), List.getElem?_eq_none (by omega)]
      simp
/-- how many blocks n bits have -/
def many (n : Nat) : Nat := (n + 31) / 32
/-- block j of a row -/
def blkAt (ns : List Int) (j : Nat) : Int := blk ((ns.drop (32 * j)).take 32)
def packs (ns : List Int) : List Int := (List.range (many ns.length)).map (blkAt ns)
theorem packs_length (ns : List Int) : (packs ns).length = many ns.length := by simp [packs]
theorem packs_get {ns : List Int} {j : Nat} (h : j < many ns.length) : (packs ns)[j]? = some (blkAt ns j) := by simp [packs, h]
theorem seg_bits {ns : List Int} (h : IsBits ns) (j : Nat) : IsBits ((ns.drop (32 * j)).take 32) := (h.drop _).take _
theorem bit_at {ns : List Int} (h : IsBits ns) (j k : Nat) (hk : k < 32) : bit (blkAt ns j) k = (ns[32 * j + k]?).getD 0 := by
  unfold blkAt
  rw [bit_blk (seg_bits h j), List.getElem?_take_of_lt hk, List.getElem?_drop]
/-- all bits of the blocks -/
def unp (bs : List Int) : List Int := bs.flatMap fun b => bits b 32
theorem unp_snoc (bs : List Int) (b : Int) : unp (bs ++ [b]) = unp bs ++ bits b 32 := by simp [unp]
theorem unp_length : ∀ bs : List Int, (unp bs).length = 32 * bs.length
  | [] => rfl
  | b :: r => by
    have := unp_length r
    simp only [unp, List.flatMap_cons, List.length_append, bits_length, List.length_cons] at this ⊢
    omega
theorem unp_get : ∀ (bs : List Int) (i : Nat), (unp bs)[i]? = (bs[i / 32]?).map fun b => bit b (i % 32)
  | [], i => by simp [unp]
  | b :: r, i => by
    show (bits b 32 ++ unp r)[i]? = _
    by_cases hi : i < 32
    · rw [List.getElem?_append_left (by rw [bits_length]; exact hi), bits_get hi]
      have e1 : i / 32 = 0 := by omega
      have e2 : i % 32 = i := by omega
      rw [e1, e2]
      rfl
    · rw [List.getElem?_append_right (by rw [bits_length]; omega), bits_length, unp_get r (i - 32)]
      have e1 : i / 32 = (i - 32) / 32 + 1 := by omega
      have e2 : i % 32 = (i - 32) % 32 := by omega
      rw [e1, e2, List.getElem?_cons_succ]
theorem unp_packs {ns : List Int} (h : IsBits ns) : (unp (packs ns)).take ns.length = ns := by
  refine List.ext_getElem? fun i => ?_
  by_cases hi : i < ns.length
  · rw [List.getElem?_take_of_lt hi, unp_get, packs_get (by unfold many; omega)]
    rw [Option.map_some, bit_at h _ _ (by omega)]
    have e : 32 * (i / 32) + i % 32 = i := by omega
    rw [e, List.getElem?_eq_getElem hi]
    rfl
  · rw [List.getElem?_eq_none (by rw [List.length_take]; omega), List.getElem?_eq_none (by omega)]
/-- the net of the first k bits -/
def net (b : Int) (k : Nat) : Int := 2 * ones b k - k
theorem net_zero (b : Int) : net b 0 = 0 := by simp [net, ones_zero]
theorem net_succ (b : Int) (k : Nat) : net b (k + 1) = net b k + 2 * bit b k - 1 := by
  unfold net
  rw [ones_succ]
  omega
/-- the nets of the first 1, .. n bits -/
def nets (b : Int) (n : Nat) : List Int := (List.range n).map fun k => net b (k + 1)
theorem nets_length (b : Int) (n : Nat) : (nets b n).length = n := by simp [nets]
theorem nets_succ (b : Int) (n : Nat) : nets b (n + 1) = nets b n ++ [net b (n + 1)] := by simp [nets, List.range_succ]
theorem mem_nets {b : Int} {n : Nat} {x : Int} : x ∈ nets b n ↔ ∃ k, 1 ≤ k ∧ k ≤ n ∧ x = net b k := by
  unfold nets
  rw [List.mem_map]
  constructor
  · rintro ⟨k, hk, rfl⟩
    exact ⟨k + 1, by omega, by have := List.mem_range.mp hk; omega, rfl⟩
  · rintro ⟨k, h1, h2, rfl⟩
    refine ⟨k - 1, List.mem_range.mpr (by omega), ?_⟩
    have e : k - 1 + 1 = k := by omega
    rw [e]
/-- the height at a place of a row -/
def ht (ns : List Int) (k : Nat) : Int := 2 * (ns.take k).sum - k
theorem ht_zero (ns : List Int) : ht ns 0 = 0 := by simp [ht]
theorem ht_succ {ns : List Int} {k : Nat} {b : Int} (h : ns[k]? = some b) : ht ns (k + 1) = ht ns k + 2 * b - 1 := by
  unfold ht
  rw [List.take_add_one, h]
  simp only [Option.toList_some, List.sum_append, List.sum_cons, List.sum_nil]
  omega
theorem sum_take_add (ns : List Int) (a k : Nat) : (ns.take (a + k)).sum = (ns.take a).sum + ((ns.drop a).take k).sum := by
  rw [List.take_add, List.sum_append]
theorem ht_block {ns : List Int} (h : IsBits ns) (j k : Nat) (hk : k ≤ 32) : ht ns (32 * j + k) = ht ns (32 * j) + net (blkAt ns j) k := by
  unfold ht net blkAt
  rw [ones_blk (seg_bits h j), sum_take_add, List.take_take, Nat.min_eq_left hk]
  omega
theorem ones_blkAt {ns : List Int} (h : IsBits ns) (j k : Nat) (hk : k ≤ 32) : ones (blkAt ns j) k = ((ns.drop (32 * j)).take k).sum := by
  unfold blkAt
  rw [ones_blk (seg_bits h j), List.take_take, Nat.min_eq_left hk]
theorem sum_block {ns : List Int} (h : IsBits ns) (j k : Nat) (hk : k ≤ 32) : (ns.take (32 * j)).sum + ones (blkAt ns j) k = (ns.take (32 * j + k)).sum := by
  rw [ones_blkAt h j k hk, sum_take_add]
/-! blocks again -/
theorem bits_cons (b : Int) (n : Nat) : bits b (n + 1) = b % 2 :: bits (b / 2) n := by
  unfold bits
  rw [List.range_succ_eq_map, List.map_cons, bit_zero, List.map_map]
  congr 1
  refine List.map_congr_left fun k _ => ?_
  exact bit_succ' b k
theorem blk_bits : ∀ (n : Nat) (b : Int), 0 ≤ b → b < 2 ^ n → blk (bits b n) = b
  | 0, b, h0, h1 => by
    have : b = 0 := by simp at h1; omega
    subst this
    rfl
  | n + 1, b, h0, h1 => by
    rw [Int.pow_succ] at h1
    rw [bits_cons, blk, blk_bits n (b / 2) (by omega) (by omega)]
    omega
theorem isBits_bits (b : Int) (n : Nat) : IsBits (bits b n) := fun x hx => by
  obtain ⟨k, _, rfl⟩ := List.mem_map.mp hx
  exact bit_cases b k
theorem isBits_unp (bs : List Int) : IsBits (unp bs) := fun x hx => by
  obtain ⟨b, _, h⟩ := List.mem_flatMap.mp hx
  exact isBits_bits b 32 x h
end Tw

set_option Elab.async false
set_option linter.all false
set_option maxRecDepth 100000
set_option maxHeartbeats 4000000
namespace L2
open PySem PySem.Spec PyProof.Rows

/-! ### two iterator records turn, a new object is laid and tracked -/
section
variable {X : Cx} {pins : List (Addr × Obj)} {σ : St} {H : Hp} {s : Shared} {h' : Heap}
theorem Inv.turn2 {e it p : Addr} {o : HO} {t' : Nat} (I : Inv X pins σ H s) (fe : FpOk X pins H e) (fi : FpOk X pins H it)
    (k : ∀ b u, b ≠ e → b ≠ it → s.heap.get? b = some u → h'.get? b = some u) (hp : s.heap.objs.size ≤ p)
    (new : ObjOk X.prog X.w (upd H p o) h' p o) : Inv X pins σ (upd H p o) { s with heap := h', toks := t' } := by
  have hn := I.hok.fresh hp
  have ne : ∀ b u, H b = some u → b ≠ e := fun b u q z => by rw [z, fe.1] at q; cases q
  have ni : ∀ b u, H b = some u → b ≠ it := fun b u q z => by rw [z, fi.1] at q; cases q
  have up : ∀ b u, H b = some u → upd H p o b = some u := fun b u q => by rw [upd_ne (ne_of_none q hn)]; exact q
  have k' : ∀ b u, b ∉ [e, it] → s.heap.get? b = some u → h'.get? b = some u := fun b u hb q => k b u (fun z => hb (by simp [z])) (fun z => hb (by simp [z])) q
  refine I.step (g' := s.gens) (d' := s.drawn) (ch := [e, it]) (fun b hb => ?_) (fun b u _ _ hx q _ => k' b u hx q) (fun b u _ _ hx q _ => ⟨u.slots, k' b u hx q⟩)
    (fun b u _ q n => by rw [upd_ne (Nat.ne_of_lt (Nat.lt_of_lt_of_le (Heap.lt_size q) hp))]; exact n) (fun b u hx q => ⟨u, k' b u hx q⟩)
    (fun b xs q => up _ _ q) (fun b ob u q => up _ _ q) (fun b ps q => ⟨#[], by rw [up _ _ q]; simp⟩) (fun m hm => ?_) (fun b u q => ?_) I.bare
  · rcases List.mem_cons.mp hb with rfl | hb
    · exact ⟨fe.2.2.2.1, fe.2.1, fe.2.2.2.2.1, fe.2.2.2.2.2⟩
    · rw [List.mem_singleton.mp hb]
      exact ⟨fi.2.2.2.1, fi.2.1, fi.2.2.2.2.1, fi.2.2.2.2.2⟩
  · obtain ⟨ob, es, ep, ho, r⟩ := hm
    exact ⟨ob, es, ep, k _ ob (Ne.symm fe.2.1) (Ne.symm fi.2.1) ho, r⟩
  · by_cases hb : b = p
    · subst hb
      rw [upd_same] at q
      cases q
      exact new
    · rw [upd_ne hb] at q
      refine (I.hok b u q).stay (fun c v hc r => k c v ?_ ?_ r) (fun c r => up _ _ r) fun c xs r => up _ _ r
      · rcases hc with rfl | z
        · exact ne _ _ q
        · exact ne _ _ z
      · rcases hc with rfl | z
        · exact ni _ _ q
        · exact ni _ _ z
end

/-! ### enumerate(xs) of a list, two names in the target -/
/-- at turn i a new tuple of the place and the item -/
def Ite (K : PySem.W.Frag) (a : Addr) : It :=
  ⟨fun i H => ∃ xs x, SqL K H a xs ∧ xs[i]? = some x, fun i H x H' => ∃ p y, H p = none ∧ x = .ref p ∧ H' = upd H p (.tup [.int (i : Int), y]) ∧ ∀ xs, SqL K H a xs → xs[i]? = some y,
   fun i H => ∃ xs, SqL K H a xs ∧ xs.length ≤ i⟩
theorem turn_enum {P : Program} {w : World} {K : PySem.W.Frag} {elts : List Expr} {x1 : Nat} {tpos : Pos} (a e it : Addr) (hne : e ≠ it) :
    Turn P w K (.Tuple elts x1 tpos) (Ite K a) [e, it] e (fun i h => (∃ old, IsEnum h e it (i : Nat) old) ∧ h.IsListIter it a i) where
  mem := by simp
  obj := fun i h st b hb => by
    obtain ⟨⟨old, he⟩, o, ho, hc, hd⟩ := st
    rcases List.mem_cons.mp hb with rfl | hb
    · exact ⟨_, he, fun v z => by cases z⟩
    · rw [List.mem_singleton.mp hb]
      exact ⟨o, ho, fun v z => by rw [hd] at z; cases z⟩
  keep := fun i h h' st k => by
    obtain ⟨⟨old, he⟩, st⟩ := st
    exact ⟨⟨old, k e (by simp) _ he⟩, st.at fun o q => k it (by simp) o q⟩
  item := by
    intro X hP hw hK hc i pins s σ H E I hf st hg
    subst hP hw hK
    obtain ⟨xs, x, hq, hx⟩ := hg
    obtain ⟨its, rv, p, hz⟩ := I.list hq
    obtain ⟨u, hu, ru⟩ := rv.get hx
    obtain ⟨⟨old, he⟩, st⟩ := st
    refine wpAny_pyNext_enum_item he st p.isList (x := u) (by simpa using hu) hne fun h1 heo hit1 ht1 hz1 hk1 => ?_
    refine ⟨_, rfl, wpAny_letOwnedTupleGo_enum heo fun h2 he2 hs2 => ?_⟩
    have ee : e < s.heap.objs.size := Heap.lt_size he
    have g2 : h2.get? s.heap.objs.size = some { cls := .type "tuple", data := .seq #[.int (i : Int) s.toks, u] } := (hs2.2 _ (Nat.ne_of_gt ee)).trans ht1
    have kk : ∀ b o, b ≠ e → b ≠ it → s.heap.get? b = some o → h2.get? b = some o := fun b o h3 h4 q => (hs2.2 b h3).trans (hk1 b o h3 h4 q)
    have new : ObjOk X.prog X.w (upd H s.heap.objs.size (.tup [.int (i : Int), x])) h2 s.heap.objs.size (.tup [.int (i : Int), x]) :=
      ⟨(by show 2 ≤ sizeLine; decide), [.int (i : Int) s.toks, u], .cons ⟨_, rfl⟩ (.cons ru .nil), _, g2, rfl, _, rfl⟩
    have I2 := I.turn2 (h' := h2) (t' := s.toks + 1) (hf e (by simp)) (hf it (by simp)) kk (Nat.le_refl _) new
    have hn : H s.heap.objs.size = none := I.hok.fresh (Nat.le_refl _)
    refine ⟨.ref s.heap.objs.size, _, I2, rfl, ⟨_, x, hn, rfl, rfl, fun ys hy => by rw [I.list_inj hy hq]; exact hx⟩, ⟨⟨u, by simpa using he2⟩, hit1.extBut hs2.extBut (Ne.symm hne)⟩, fun b hb => ?_⟩
    have hbn := (hf b hb).1
    have hbs : b ≠ s.heap.objs.size := by
      obtain ⟨o, hio, _⟩ := st
      rcases List.mem_cons.mp hb with rfl | hb
      · exact Nat.ne_of_lt ee
      · rw [List.mem_singleton.mp hb]
        exact Nat.ne_of_lt (Heap.lt_size hio)
    rw [upd_ne hbs]
    exact hbn
  done := by
    intro X hP hw hK hc i pins s σ H E I hf st hg
    subst hP hw hK
    obtain ⟨xs, hq, hx⟩ := hg
    obtain ⟨its, rv, p, hz⟩ := I.list hq
    obtain ⟨f0, f1, f2, f3, f4, f5⟩ := hf it (by simp)
    obtain ⟨⟨old, he⟩, st⟩ := st
    have hl := rv.length
    exact wpAny_pyNext_enum_end (I.ok.hd hc) he st p.isList (by simp; omega) fun h' eb => ⟨rfl, I.turned (t' := s.toks) (fun b o hb q => eb b o hb q) f0 f1 f3 f4 f5⟩
  self := fun _ _ _ _ _ st h => by
    obtain ⟨⟨old, he⟩, _⟩ := st
    exact wpAny_pyIter_enum he h
section
variable {X : Cx}
def iEnum (K : PySem.W.Frag) (ta : TA) : TI := fun σ H R => ta σ H fun vs H1 => ∃ a xs, vs = [.ref a] ∧ SqL K H1 a xs ∧ R (Ite K a) H1
theorem pi_enum {a : Expr} {ta : TA} {p pos : Pos} {elts : List Expr} {x1 : Nat} {tpos : Pos} (hg : Gl X "enumerate") (hm : X.mg "enumerate" = none) (ha : PA X [a] ta) (hs : starEach [a] X.env = [(false, eval a X.env)] := by rfl) :
    PI X (.Tuple elts x1 tpos) (.Call (.Name "enumerate" p) [a] [] pos) (iEnum X.K ta) := by
  intro pins s σ H R I h
  refine Call_ (ld_blt I hg hm boot_enumerate (PyProof.Rows.callWith_type1 (thn (ha pos pins s σ H _ I h) fun us s1 ⟨vs, H1, I1, r1, q1⟩ => ?_) hs rfl))
  obtain ⟨b, xs, e, hq, q⟩ := q1
  subst e
  obtain ⟨u, rfl, rx⟩ := vals1 r1
  cases rx
  obtain ⟨its, rv, pl, hz⟩ := I1.list hq
  refine call_enumerate_list pl.isList fun h' he hit hsz hk => ?_
  refine wpAny_pyIter_enum he ?_
  have I2 : Inv X pins σ H1 { s1 with heap := h' } := I1.kept (t' := s1.toks) hk
  have ne : s1.heap.objs.size + 1 ≠ s1.heap.objs.size := by omega
  refine ⟨s1.heap.objs.size + 1, [s1.heap.objs.size + 1, s1.heap.objs.size], _, Ite X.K b, H1, rfl, I2, turn_enum b _ _ ne, ⟨⟨_, he⟩, hit⟩, fun c hc => ?_, q⟩
  have hle : s1.heap.objs.size ≤ c := by
    rcases List.mem_cons.mp hc with rfl | hc
    · omega
    · rw [List.mem_singleton.mp hc]
      omega
  exact I1.fpOk hle (I1.hok.fresh hle)
end
/-- over enumerate of a list that the body leaves as it is -/
theorem for_enum {K : PySem.W.Frag} {a : Addr} {xs : List V} {g : TG} {tb : TS} {D : Ends} {σ : St} {H : Hp} (Pv : Nat → St → Hp → Prop) (h0 : Pv 0 σ H) (hl : ∀ i σ H, i ≤ xs.length → Pv i σ H → SqL K H a xs)
    (hs : ∀ i x σ H p, xs[i]? = some x → Pv i σ H → H p = none → g (.ref p) σ (upd H p (.tup [.int (i : Int), x])) fun σ2 H2 => tb { D with nx := Pv (i + 1), ct := Pv (i + 1), bk := D.nx } σ2 H2) (hd : ∀ σ H, Pv xs.length σ H → D.nx σ H) :
    ∃ W : Nat → Nat → St → Hp → Prop, (∃ m, W 0 m σ H) ∧ ∀ i m σ H, W i m σ H →
      ((Ite K a).stop i H ∧ D.nx σ H) ∨ ((Ite K a).go i H ∧ ∃ N : St → Hp → Prop, (∀ σ' H', N σ' H' → ∃ m', m' < m ∧ W (i + 1) m' σ' H') ∧ ∀ x H', (Ite K a).yld i H x H' → g x σ H' fun σ2 H2 => tb { D with nx := N, ct := N, bk := D.nx } σ2 H2) := by
  refine ⟨fun i m σ H => m = xs.length - i ∧ i ≤ xs.length ∧ Pv i σ H, ⟨xs.length, by simp, Nat.zero_le _, h0⟩, ?_⟩
  rintro i m σ H ⟨rfl, hi, p⟩
  have q := hl i σ H hi p
  by_cases hlt : i < xs.length
  · refine .inr ⟨⟨xs, xs[i], q, by simp [hlt]⟩, Pv (i + 1), fun σ' H' p' => ⟨xs.length - (i + 1), by omega, rfl, hlt, p'⟩, fun x H' y => ?_⟩
    obtain ⟨c, y, hn, e1, e2, hy⟩ := y
    subst e1 e2
    exact hs i y σ H c (hy xs q) p hn
  · have e : i = xs.length := by omega
    subst e
    exact .inl ⟨⟨xs, q, Nat.le_refl _⟩, hd σ H p⟩

/-! ### sum of a list of ints; isinstance with one built-in class -/
section
variable {X : Cx}
theorem call_sum (hc : X.calm = true) : CallR X (.builtin "sum") (fun xs H Q => ∃ (p : Addr) (ns : List Int), xs = [.ref p] ∧ SqL X.K H p (ns.map V.int) ∧ Q (.int ns.sum) H) := by
  intro pins s σ H xs us Q I r h
  obtain ⟨p, ns, rfl, hq, q⟩ := h
  obtain ⟨u, rfl, rx⟩ := vals1 r
  cases rx
  obtain ⟨its, r', pl, hz⟩ := I.list hq
  have hi := intsAre_of r'
  obtain ⟨zs, e⟩ := hi.allInts.items
  refine sum_intListG (xs := zs) (I.ok.hd hc) (by rw [← e]; exact pl.isList) fun h' tk t' hk => ⟨.int ns.sum, H, I.kept (t' := tk) hk, ⟨t', ?_⟩, q⟩
  have e2 : numsOf (intItems zs).toList = ns := by rw [← e]; exact hi.numsOf
  rw [nums_intItems] at e2
  rw [← e2, preSum_eq, List.take_of_length_le (by simp)]
theorem call_isi : CallR X (.builtin "isinstance") (fun xs H Q => ∃ x T t b, xs = [x, .ty T] ∧ TyOf X.K H x t ∧ PySem.W.kitOne X.K t (.type T) = some b ∧ Q (.bl b) H) := by
  intro pins s σ H xs us Q I r h
  obtain ⟨x, T, t, b, rfl, ty, e, q⟩ := h
  obtain ⟨u, v, rfl, rx, rv⟩ := vals2 r
  obtain rfl : v = Value.type T := rv
  exact isinst_ok I rx ty e fun tk => ⟨.bl b, H, I.tok tk, rfl, q⟩
end
end L2

set_option Elab.async false
set_option linter.all false
set_option maxRecDepth 100000
set_option maxHeartbeats 4000000
namespace L2
open PySem PySem.Spec PyProof.Rows

/-! ### list comprehensions: one clause, a plain name, at most one test; no exception leaves -/
/-- the block of a comprehension as a context -/
def cxComp (X : Cx) (N : List Str) (scope : Scope) (cl : List (Str × Addr)) (C : Addr) (s : Shared) (H : Hp) (fp : List Addr) : Cx :=
  { X with N := N, s₀ := s, H₀ := H, env := compEnvC scope cl C X.env, outer := X.stack, ex := fp, fn := fun _ => false, pn := [], xe := fun _ _ => False }
/-- what of the text a comprehension must have: its own name x, the names that it takes from around with their slots there -/
structure CompOk (X : Cx) (x : Str) (caps : List (Str × Nat)) (scope : Scope) (cl : List (Str × Addr)) : Prop where
  kind : scope.kind = .function
  nocell : ∀ y ∈ scope.names, y.2 ≠ .cell
  names : ∀ y ∈ scope.names, y.2 = .local → scope.names.lookup y.1 = some .local
  hx : scope.names.lookup x = some .local
  clos : closureFor scope X.env = pure cl
  cls : ∀ y c, cl.lookup y = some c → X.env.cells.lookup y = some c
  has : ∀ y, ((relabel scope X.env).names.lookup y = some .cell ∨ (relabel scope X.env).names.lookup y = some .free) → ∃ c, cl.lookup y = some c
  nd : (x :: caps.map (·.1)).Nodup
  cap : ∀ y j, (y, j) ∈ caps → X.N[j]? = some y ∧ (X.env.scope.names.lookup y = some .cell ∨ X.env.scope.names.lookup y = some .free) ∧
    ((relabel scope X.env).names.lookup y = some .cell ∨ (relabel scope X.env).names.lookup y = some .free)
/-- the values taken from around -/
def capV (caps : List (Str × Nat)) (σ : St) : St := caps.map fun p => (σ[p.2]?).getD none
section
variable {X : Cx} {pins : List (Addr × Obj)} {σ : St} {H : Hp} {s : Shared}
theorem capV_length (caps : List (Str × Nat)) (σ : St) : (capV caps σ).length = caps.length := by simp [capV]

/-- the state at the block's entry: the list to be filled stands at D, the block's names at C -/
theorem Inv.comp {x : Str} {caps : List (Str × Nat)} {scope : Scope} {cl : List (Str × Addr)} {fp : List Addr} {h' : Heap} {tk : Nat} {m : Str → Option Value} {D C : Addr} (I : Inv X pins σ H s) (K0 : CompOk X x caps scope cl) (hf : ∀ b ∈ fp, FpOk X pins H b)
    (hfs : ∀ b ∈ fp, b < s.heap.objs.size) (hD : s.heap.objs.size ≤ D) (hC : s.heap.objs.size ≤ C) (hDC : D ≠ C) (hk : ∀ b o, s.heap.get? b = some o → h'.get? b = some o) (hn : h'.Ns C m) (hL : h'.get? D = some { cls := .type "list", data := .seq #[] }) :
    Inv (cxComp X (x :: caps.map (·.1)) scope cl C s H fp) [] (none :: capV caps σ) (upd H D (.lst [])) { s with heap := h', toks := tk } := by
  have hnD := I.hok.fresh hD
  have hnC := I.hok.fresh hC
  have lkc : ∀ y c, (cxComp X (x :: caps.map (·.1)) scope cl C s H fp).env.cells.lookup y = some c → X.env.cells.lookup y = some c := fun y c e => K0.cls y c e
  have clt : ∀ y c, X.env.cells.lookup y = some c → c < s.heap.objs.size := fun y c e => by
    obtain ⟨v, q⟩ := I.cell y c e
    exact q.lt
  have up : ∀ b u, H b = some u → upd H D (.lst []) b = some u := fun b u q => by rw [upd_ne (ne_of_none q hnD)]; exact q
  have ok : (cxComp X (x :: caps.map (·.1)) scope cl C s H fp).Ok := by
    refine ⟨I.ok.mod, K0.kind, I.ok.glob, I.ok.blt, hC, fun y z c h1 h2 => I.ok.inj y z c (lkc y c h1) (lkc z c h2), fun y hy => K0.has y hy, fun y c h => absurd (show false = true from h) Bool.false_ne_true, I.ok.hd, I.ok.frames, .inl rfl, fun b hb => ?_, I.bs, Nat.le_trans I.ok.bsz I.sz, fun b o e hb => ?_, fun b hb hz => ?_, I.stack, I.stkFree⟩
    · obtain ⟨f0, f1, f2, f3, f4, f5⟩ := hf b hb
      exact ⟨Nat.ne_of_lt (Nat.lt_of_lt_of_le (hfs b hb) hC), fun y c e => f4 y c (lkc y c e)⟩
    · obtain ⟨f0, f1, f2, f3, f4, f5⟩ := hf b hb
      rcases f3 with z | z
      · exact I.ok.noex b o e z
      · exact absurd (Nat.lt_of_lt_of_le (Nat.lt_of_lt_of_le (Heap.lt_size e) I.ok.bsz) z) (Nat.lt_irrefl _)
    · obtain ⟨f0, f1, f2, f3, f4, f5⟩ := hf b hb
      rcases List.mem_cons.mp (I.stkSub b hz) with z | z
      · exact f1 z
      · exact f2 z
  refine ⟨ok, rfl, I.bare, ?_, ⟨m, hn, fun i y v e1 e2 e3 => ?_⟩, fun y c e => ?_, ?_, fun y c e => ?_, fun p hp => absurd (show p ∈ ([] : List (Addr × Obj)) from hp) (by simp), ?_, ?_⟩
  · exact Un.laid hk hD hnD
  · cases i with
    | zero => cases e2
    | succ i =>
      have e1' : (caps.map (·.1))[i]? = some y := e1
      have e2' : (capV caps σ)[i]? = some (some v) := e2
      rw [List.getElem?_map] at e1'
      unfold capV at e2'
      rw [List.getElem?_map] at e2'
      cases ec : caps[i]? with
      | none => rw [ec] at e1'; cases e1'
      | some p =>
        rw [ec] at e1' e2'
        obtain ⟨y', j⟩ := p
        have ey : y' = y := Option.some.inj e1'
        subst ey
        have ev : (σ[j]?).getD none = some v := Option.some.inj e2'
        have ev' : σ[j]? = some (some v) := by
          cases q : σ[j]? with
          | none => rw [q] at ev; cases ev
          | some w => rw [q] at ev; exact congrArg some ev
        obtain ⟨c1, c2, c3⟩ := K0.cap y' j (List.mem_of_getElem? ec)
        obtain ⟨m0, hn0, hl⟩ := I.loc
        obtain ⟨u, r, l⟩ := hl j y' v c1 ev' (by rcases c2 with z | z; exact .inr (.inl z); exact .inr (.inr z))
        refine ⟨u, r, .inr ⟨c3, ?_⟩⟩
        rcases l with ⟨k, _⟩ | ⟨k, c, ec, z⟩
        · have k' : X.env.scope.names.lookup y' = some .local := k
          rcases c2 with z | z
          · rw [z] at k'; cases k'
          · rw [z] at k'; cases k'
        · obtain ⟨c', hc'⟩ := K0.has y' c3
          have e4 := K0.cls y' c' hc'
          rw [ec] at e4
          cases e4
          obtain ⟨o, ho, hd⟩ := z
          exact ⟨c, hc', o, hk _ _ ho, hd⟩
  · obtain ⟨v, o, ho, hd⟩ := I.cell y c (lkc y c e)
    exact ⟨v, o, hk _ _ ho, hd⟩
  · show upd H D (.lst []) C = none
    rw [upd_ne (Ne.symm hDC)]
    exact hnC
  · have hlt := clt y c (lkc y c e)
    rw [upd_ne (Nat.ne_of_lt (Nat.lt_of_lt_of_le hlt hD))]
    exact I.freeC y c (lkc y c e)
  · exact I.hok.laid hk hD ⟨Nat.zero_le _, [], _, .nil, hL⟩
  · show (none :: capV caps σ).length = (x :: caps.map (·.1)).length
    simp [capV_length]
/-- behind the block -/
theorem Inv.comped {N : List Str} {scope : Scope} {cl : List (Str × Addr)} {fp : List Addr} {C : Addr} {s' : Shared} {σ' : St} {H' : Hp} (I : Inv X pins σ H s) (hf : ∀ b ∈ fp, FpOk X pins H b)
    (J : Inv (cxComp X N scope cl C s H fp) [] σ' H' s') : Inv X pins σ H' s' := by
  refine I.call' (ch := fp) (J.os.trans rfl) J.base J.hok J.bare fun b hb => ?_
  obtain ⟨f0, f1, f2, f3, f4, f5⟩ := hf b hb
  exact ⟨f3, f1, f4, f5⟩

/-- the reading of a comprehension: cap: what it takes from around; tt: its test; te: its item -/
def rdComp (J : It) (cap : St) (tt : TT) (te : TE) (Qf : Addr → Hp → Prop) (H : Hp) : Prop :=
  ∀ D, H D = none → ∃ W : Nat → Nat → List V → Hp → Prop, (∃ m, W 0 m [] (upd H D (.lst []))) ∧ ∀ i m ys H1, W i m ys H1 →
    (J.stop i H1 ∧ Qf D H1) ∨ (J.go i H1 ∧ ∀ v H2, J.yld i H1 v H2 → tt (some v :: cap) H2 fun b H3 => if b = true then
      te (some v :: cap) H3 fun y H4 => H4 D = some (.lst ys) ∧ ys.length < sizeLine ∧ ∃ m', m' < m ∧ W (i + 1) m' (ys ++ [y]) (upd H4 D (.lst (ys ++ [y]))) else ∃ m', m' < m ∧ W (i + 1) m' ys H3)
/-- its tests: none, or one -/
def PTs (X : Cx) (ifs : List Expr) (tt : TT) : Prop :=
  ∀ (pins : List (Addr × Obj)) (s : Shared) (σ : St) (H : Hp) (Q : Bool → Hp → Prop), Inv X pins σ H s → tt σ H Q →
    wpAny (model X.prog X.w) X.A (forIn ifs true fun c r => if r = true then do let ok ← isTrue c X.env (eval c X.env); pure (ForInStep.yield ok) else pure (ForInStep.yield r)) (TP X pins σ Q) X.xe s
def tNoIf : TT := fun _ H Q => Q true H
theorem pts_nil : PTs X [] tNoIf := fun _ _ _ H _ I h => wpAny_tests_nil ⟨H, I, h⟩
theorem pts_one {c : Expr} {tt : TT} (h : PT X c tt) : PTs X [c] tt := fun pins s σ H Q I q => wpAny_tests_one (h pins s σ H Q I q)

theorem comp_core {x : Str} {px pos : Pos} {caps : List (Str × Nat)} {scope : Scope} {cl : List (Str × Addr)} {elt iter : Expr} {ifs : List Expr} {J : It} {fp : List Addr} {it : Addr} {tn : Nat → Heap → Prop} {tt : TT} {te : TE} {Qf : Addr → Hp → Prop}
    {RR : Value → Addr → Result → Shared → Prop} {E : Value → Shared → Prop} (I : Inv X pins σ H s) (hc : X.calm = true) (K0 : CompOk X x caps scope cl) (T : Turn X.prog X.w X.K (.Name x px) J fp it tn) (st : tn 0 s.heap) (hf : ∀ b ∈ fp, FpOk X pins H b)
    (ht : ∀ C s1 H1 fp1, PTs (cxComp X (x :: caps.map (·.1)) scope cl C s1 H1 fp1) ifs tt) (he : ∀ C s1 H1 fp1, PE (cxComp X (x :: caps.map (·.1)) scope cl C s1 H1 fp1) elt te) (rd : rdComp J (capV caps σ) tt te Qf H)
    (hRR : ∀ D C s' H' m, Inv X pins σ H' s' → s'.heap.Ns C m → FpOk X pins H' C → Qf D H' → RR (.ref D) C (.ok .next) s') :
    wpAny (model X.prog X.w) X.A (newList []) (fun acc s3 => wpAny (model X.prog X.w) X.A (newFunctionEnv scope X.env.globals cl [] X.env.qual none .none (some X.env)) (fun cenv s4 =>
      codeAny (model X.prog X.w) X.A (.compStart (.ListComp elt [⟨.Name x px, iter, ifs, 0⟩] scope pos) 0 (.ref it) acc { cenv with scope := relabel scope X.env }) (RR acc cenv.locals) s4) E s3) E s := by
  have hfs : ∀ b ∈ fp, b < s.heap.objs.size := fun b hb => by
    obtain ⟨o, e, _⟩ := T.obj _ _ st b hb
    exact Heap.lt_size e
  refine wpAny_newObj_type (wpAny_newFunctionEnv K0.nocell (by intro y hy; simp at hy) (fun h1 hn1 hb1 => ?_) K0.kind)
  dsimp only at hn1 hb1 ⊢
  obtain ⟨D, eD⟩ : ∃ D : Nat, D = s.heap.objs.size := ⟨_, rfl⟩
  obtain ⟨H2, eH2⟩ : ∃ g, g = s.heap.push { cls := .type "list", dict := none, data := .seq ([] : List Value).toArray } := ⟨_, rfl⟩
  rw [← eH2] at hn1 hb1 ⊢
  rw [← eD]
  have hC : H2.objs.size = D + 1 := by rw [eH2, Heap.size_push, eD]
  have hle : s.heap.objs.size ≤ H2.objs.size := by rw [hC, eD]; exact Nat.le_succ _
  have hDC : D ≠ H2.objs.size := by rw [hC]; exact Nat.ne_of_lt (Nat.lt_succ_self _)
  have hk : ∀ b o, s.heap.get? b = some o → h1.get? b = some o := fun b o e => by
    refine hb1.extBut b o (Nat.ne_of_lt (Nat.lt_of_lt_of_le (Heap.lt_size e) hle)) (Heap.get?_push_of_some _ ?_)
    rw [eH2]
    exact Heap.get?_push_of_some _ e
  have hL : h1.get? D = some { cls := .type "list", data := .seq #[] } := by
    refine hb1.extBut D _ (by omega) (Heap.get?_push_of_some _ ?_)
    rw [eH2, eD]
    exact Heap.get?_push_size _ rfl
  have st1 : tn 0 h1 := T.keep _ _ _ st fun b _ o e => hk b o e
  obtain ⟨W, ⟨m0, w0⟩, turn⟩ := rd D (I.hok.fresh (by omega))
  have loop : codeAny (model X.prog X.w) X.A (.compLoop (.ListComp elt [⟨.Name x px, iter, ifs, 0⟩] scope pos) 0 (.ref it) (.ref D) (compEnvC scope cl H2.objs.size X.env)) (RR (.ref D) H2.objs.size) { s with heap := h1, toks := s.toks + ([] : List (Str × Value)).length } := by
    refine codeAny_compLoop_tests (fun n s' => ∃ i ys sl H', Inv (cxComp X (x :: caps.map (·.1)) scope cl H2.objs.size s H fp) [] (sl :: capV caps σ) H' s' ∧ tn i s'.heap ∧ (∀ b ∈ fp, H' b = none) ∧ W i n ys H') ?_ m0
      ⟨0, [], none, _, I.comp K0 hf hfs (by omega) (by omega) hDC hk hn1 hL, st1, fun b hb => ?_, w0⟩
    · rintro n s3 ⟨i, ys, sl, H3, I3, st3, fr3, w3⟩
      have fpc : ∀ {H' : Hp} {pi : List (Addr × Obj)}, (∀ b ∈ fp, H' b = none) → (∀ p ∈ pi, p.1 ∉ fp) → ∀ b ∈ fp, FpOk (cxComp X (x :: caps.map (·.1)) scope cl H2.objs.size s H fp) pi H' b := fun {H' pi} hn hp b hb => by
        obtain ⟨f0, f1, f2, f3, f4, f5⟩ := hf b hb
        refine ⟨hn b hb, ?_, fun z => ?_, .inl hb, fun y c e => f4 y c (K0.cls y c e), fun p hpp z => ?_⟩
        · exact Nat.ne_of_lt (Nat.lt_of_lt_of_le (hfs b hb) hle)
        · rcases List.mem_cons.mp (I.stkSub b z) with q | q
          · exact f1 q
          · exact f2 q
        · exact hp p (by simpa [cxComp] using hpp) (by rw [z]; exact hb)
      have clear : ∀ {α : Type} {t : Sem α} {Q : α → Shared → Prop} {E' : Value → Shared → Prop} {s : Shared}, wpAny (model X.prog X.w) X.A t Q (fun _ _ => False) s → wpAny (model X.prog X.w) X.A t Q E' s := fun h => wpAny_mono h (fun _ _ z => z) fun _ _ z => z.elim
      rcases turn i n ys H3 w3 with ⟨stop, qf⟩ | ⟨go, step⟩
      · refine thn (T.done (cxComp X (x :: caps.map (·.1)) scope cl H2.objs.size s H fp) rfl rfl rfl hc i [] s3 _ H3 _ I3 (fpc fr3 (by simp)) st3 stop) fun r s4 ⟨hr, I4⟩ => ?_
        subst hr
        obtain ⟨m4, hn4, _⟩ := id I4.loc
        refine hRR D _ s4 H3 m4 (I.comped hf I4) hn4 ?_ qf
        have gC : s.heap.objs.size ≤ H2.objs.size := by omega
        exact I.fpOk gC I4.free
      · refine clear (thn (T.item (cxComp X (x :: caps.map (·.1)) scope cl H2.objs.size s H fp) rfl rfl rfl hc i [] s3 _ H3 (fun _ _ => False) I3 (fpc fr3 (by simp)) st3 go) fun r s4 ⟨u, hr, h4⟩ => ?_)
        subst hr
        refine clear (show wpAny (model X.prog X.w) X.A (pure () >>= fun _ => assign (.Name x px) (compEnvC scope cl H2.objs.size X.env) u) _ _ s4 from wpAny_bind (thn (h4 : wpAny (model X.prog X.w) X.A (pure ()) _ _ s4) fun _ s5 ⟨v, H5, I5, r5, y5, st5, fr5⟩ => ?_))
        have I5' := I5.pinned (fpc fr5 (by simp)) (T.obj _ _ st5)
        have hg : PG (cxComp X (x :: caps.map (·.1)) scope cl H2.objs.size s H fp) (.Name x px) (gName 0) := pg_name (i := 0) K0.nd rfl (Or.inl (lookup_relabel_local K0.hx)) (Or.inr (lookup_relabel_local K0.hx))
        refine thn (hg _ s5 (sl :: capV caps σ) H5 v u (fun σ2 H2 => σ2 = some v :: capV caps σ ∧ H2 = H5) I5' r5 (show _ ∧ _ from ⟨rfl, rfl⟩)) fun _ s6 ⟨σ6, H6, I6, e6, e7⟩ => ?_
        subst e6 e7
        have q6 := step v _ y5
        have again : ∀ {H7 : Hp} {s7 : Shared} {sl : Option V} {zs : List V} {m' : Nat}, Inv (cxComp X (x :: caps.map (·.1)) scope cl H2.objs.size s H fp) ([] ++ pinsAt fp s5.heap) (sl :: capV caps σ) H7 s7 → m' < n → W (i + 1) m' zs H7 →
            ∃ m, m < n ∧ ∃ i ys sl H', Inv (cxComp X (x :: caps.map (·.1)) scope cl H2.objs.size s H fp) [] (sl :: capV caps σ) H' s7 ∧ tn i s7.heap ∧ (∀ b ∈ fp, H' b = none) ∧ W i m ys H' := fun {H7 s7 sl zs m'} I7 hm w7 => by
          refine ⟨m', hm, i + 1, zs, sl, H7, I7.unpinned, T.keep _ _ _ st5 fun b hb o e => (I7.pin (b, o) (List.mem_append_right _ (List.mem_append_right _ (mem_pinsAt hb e)))).1, fun b hb => ?_, w7⟩
          obtain ⟨o, e, d⟩ := T.obj _ _ st5 b hb
          exact (I7.pin (b, o) (List.mem_append_right _ (List.mem_append_right _ (mem_pinsAt hb e)))).2.1
        refine clear (thn (ht H2.objs.size s H fp _ s6 _ H6 _ I6 q6) fun ok s7 ⟨H7, I7, q7⟩ => ?_)
        cases ok with
        | false =>
          obtain ⟨m', hm, w7⟩ := (show ∃ m', m' < n ∧ W (i + 1) m' ys H7 from q7)
          exact again I7 hm w7
        | true =>
          refine clear (thn (he H2.objs.size s H fp _ s7 _ H7 _ I7 q7) fun xv s8 ⟨y, H8, I8, r8, hD8, hz8, m', hm, w8⟩ => ?_)
          refine clear (thn (mt_append _ s8 _ H8 (.ref D) [y] (.ref D) [xv] (fun _ H9 => H9 = upd H8 D (.lst (ys ++ [y]))) I8 rfl (.cons r8 .nil) ⟨D, ys, y, rfl, rfl, hD8, hz8, rfl⟩) fun _ s9 ⟨_, H9, I9, _, e9⟩ => ?_)
          subst e9
          exact again I9 hm w8
    · rw [upd_ne (by rw [eD]; exact Nat.ne_of_lt (hfs b hb))]
      exact (hf b hb).1
  exact codeAny_compStart_list loop (T.self _ 0 _ _ _ st1 loop)

def tComp (wi : TI) (caps : List (Str × Nat)) (tt : TT) (te : TE) : TE := fun σ H Q => wi σ H fun J H1 => rdComp J (capV caps σ) tt te (fun D H' => Q (.ref D) H') H1
/-- a comprehension as a value -/
theorem pe_comp {x : Str} {px pos : Pos} {caps : List (Str × Nat)} {scope : Scope} {cl : List (Str × Addr)} {elt iter : Expr} {ifs : List Expr} {wi : TI} {tt : TT} {te : TE} (hc : X.calm = true) (K0 : CompOk X x caps scope cl) (hi : PI X (.Name x px) iter wi)
    (ht : ∀ C s1 H1 fp1, PTs (cxComp X (x :: caps.map (·.1)) scope cl C s1 H1 fp1) ifs tt) (he : ∀ C s1 H1 fp1, PE (cxComp X (x :: caps.map (·.1)) scope cl C s1 H1 fp1) elt te) (hs : ∀ x, foldedSetIterable iter X.env x = pure x := by intro _; rfl) :
    PE X (.ListComp elt [⟨.Name x px, iter, ifs, 0⟩] scope pos) (tComp wi caps tt te) := by
  intro pins s σ H Q I h
  rw [eval_ListComp]
  refine wpAny_comprehension_free (use := none) rfl hs K0.clos K0.kind K0.names (thn (hi pins s σ H _ I h) fun v s1 h1 => thn h1 fun itv s2 h2 => ?_)
  obtain ⟨it, fp, tn, J, H2, e, I2, T, st2, f2, rd⟩ := h2
  subst e
  refine comp_core (RR := fun acc C => compPost (model X.prog X.w) X.A X.xe none (EP X pins σ Q) acc C) I2 hc K0 T st2 f2 ht he rd ?_
  intro D C s' H' m I' hn fC q
  exact ⟨m, hn, fun h'' hs'' => ⟨.ref D, H', I'.turned (h' := h'') (t' := s'.toks) (fun b o hb e => hs''.extBut b o hb e) fC.1 fC.2.1 fC.2.2.2.1 fC.2.2.2.2.1 fC.2.2.2.2.2, rfl, q⟩⟩
end
/-! the facts of the text about a comprehension's names -/
theorem relabel_back {scope : Scope} {env : Env} {y : Str} {k : NameKind} (h : (relabel scope env).names.lookup y = some k) : ∃ k0, (y, k0) ∈ scope.names ∧ (k = k0 ∨ (k0 = .free ∧ k = .cell)) := by
  have h := PySem.mem_of_lookup h
  obtain ⟨⟨n, k0⟩, hm, e⟩ := List.mem_map.mp (show (y, k) ∈ scope.names.map _ from h)
  by_cases c : (k0 == NameKind.free && env.scope.kind == .function && env.kindOf n == some .cell) = true
  · have e' : (n, NameKind.cell) = (y, k) := by rw [← e]; exact (if_pos c).symm
    have c1 : k0 = .free := by
      simp only [Bool.and_eq_true] at c
      exact eq_of_beq c.1.1
    cases e'
    exact ⟨_, hm, .inr ⟨c1, rfl⟩⟩
  · have e' : (n, k0) = (y, k) := by rw [← e]; exact (if_neg c).symm
    cases e'
    exact ⟨_, hm, .inl rfl⟩
section
variable {X : Cx} {x : Str} {scope : Scope}
/-- it takes nothing from around -/
theorem CompOk.zero (hfree : ∀ y ∈ scope.names, y.2 ≠ .free := by decide) (nocell : ∀ y ∈ scope.names, y.2 ≠ .cell := by decide) (kind : scope.kind = .function := by rfl) (names : ∀ y ∈ scope.names, y.2 = .local → scope.names.lookup y.1 = some .local := by decide)
    (hx : scope.names.lookup x = some .local := by rfl) : CompOk X x [] scope [] := by
  refine ⟨kind, nocell, names, hx, closureFor_none hfree, fun y c e => (by cases e), fun y hy => ?_, by simp, fun y j h => nomatch h⟩
  rcases hy with hy | hy
  all_goals
    obtain ⟨k0, hm, e⟩ := relabel_back hy
    rcases e with e | ⟨e, _⟩
    · subst e
      first | exact absurd rfl (nocell _ hm) | exact absurd rfl (hfree _ hm)
    · subst e
      exact absurd rfl (hfree _ hm)
/-- it takes the one name y, which stands in slot j there -/
theorem CompOk.one {y : Str} {j : Nat} {c : Addr} (hN : X.N[j]? = some y) (hX : X.env.scope.names.lookup y = some .cell ∨ X.env.scope.names.lookup y = some .free) (ec : X.env.cells.lookup y = some c) (clos : closureFor scope X.env = pure [(y, c)])
    (hr : (relabel scope X.env).names.lookup y = some .cell ∨ (relabel scope X.env).names.lookup y = some .free)
    (hfree : ∀ z ∈ scope.names, z.2 = .free → z.1 = y := by decide) (nocell : ∀ y ∈ scope.names, y.2 ≠ .cell := by decide) (kind : scope.kind = .function := by rfl) (names : ∀ y ∈ scope.names, y.2 = .local → scope.names.lookup y.1 = some .local := by decide)
    (hx : scope.names.lookup x = some .local := by rfl) (nd : [x, y].Nodup := by decide) : CompOk X x [(y, j)] scope [(y, c)] := by
  have look : ([(y, c)] : List (Str × Addr)).lookup y = some c := by simp
  refine ⟨kind, nocell, names, hx, clos, fun z d e => ?_, fun z hz => ?_, nd, fun z i h => ?_⟩
  · have := PySem.mem_of_lookup e
    cases List.mem_singleton.mp this
    exact ec
  · have hz' : z = y := by
      rcases hz with hz | hz
      all_goals
        obtain ⟨k0, hm, e⟩ := relabel_back hz
        rcases e with e | ⟨e, _⟩
        · subst e
          first | exact absurd rfl (nocell _ hm) | exact hfree _ hm rfl
        · subst e
          exact hfree _ hm rfl
    subst hz'
    exact ⟨c, look⟩
  · cases List.mem_singleton.mp h
    exact ⟨hN, hX, hr⟩
end
end L2

set_option Elab.async false
set_option linter.all false
set_option maxRecDepth 100000
set_option maxHeartbeats 4000000
namespace L2
open PySem PySem.Spec PyProof.Rows

/-! ### min of a list of ints, without and with a default -/
section
variable {prog : Program} {w : World} {A : Around} {R : Result → Shared → Prop} {I S : Addr} {fp wr : List Addr} {n : Nat} {P : Nat → Value → Prop} {St : Nat → Heap → Prop} {kw : List (Str × Value)}
theorem minK_loop (W : Walks prog w A.in1 I fp wr n P St) (bt : Nat → Nat → Bool) (cmp : CmpOf prog w A.in1 .Lt P bt) (hSf : S ∉ fp) :
    ∀ (k j : Nat) (s : Shared) (x : Value) (c : Nat), j + 1 + k = n → St (j + 1) s.heap → P (argBest bt j) x → s.heap.get? S = some { cls := .type "list", data := .seq #[x, x] c } →
      (∀ v g t, P (argBest bt (n - 1)) v → (∀ b o, b ∉ wr → b ≠ S → s.heap.get? b = some o → g.get? b = some o) → R (.ok (.ret v)) { s with heap := g, toks := t }) →
      codeAny (model prog w) A (.builtin "min.loop" ⟨[.ref I, .none, .ref S], kw⟩) R s := by
  have hSw : S ∉ wr := fun z => hSf (W.sub _ z)
  have nm : (toString "min" ++ toString ".loop" : String) = "min.loop" := by decide
  intro k
  induction k with
  | zero =>
    intro j s x c hj st px hS fin
    have hn : j + 1 = n := hj
    refine codeAny_builtin PySem.F.entry_min_loop ?_
    rw [Around.under_plainId PySem.F.plain_min_loop _]
    show wpAny _ A.in1 (seqItems? (.ref S) >>= _) _ _ s
    refine wpAny_bind (wpAny_seqItems hS rfl ?_)
    show wpAny _ A.in1 (tryCatch (pyNext (.ref I)) _ >>= _) _ _ s
    refine wpAny_bind (wpAny_tryCatch (W.done s _ _ (hn ▸ st) fun g t kk => ?_))
    have hS1 := kk S _ hSw hS
    show wpAny _ A.in1 (updateSeq S (fun _ => #[]) >>= _) _ _ _
    refine wpAny_bind (wpAny_updateSeq hS1 rfl (wpAny_bind (wpAny_letGo (wpAny_pure ?_))))
    exact fin x _ t (by rw [← hn]; exact px) fun b o b1 b2 q => (Heap.get?_update_other _ _ (Ne.symm b2)).trans (kk b o b1 q)
  | succ k ih =>
    intro j s x c hj st px hS fin
    have lt : j + 1 < n := by omega
    refine codeAny_builtin PySem.F.entry_min_loop ?_
    rw [Around.under_plainId PySem.F.plain_min_loop _]
    show wpAny _ A.in1 (seqItems? (.ref S) >>= _) _ _ s
    refine wpAny_bind (wpAny_seqItems hS rfl ?_)
    show wpAny _ A.in1 (tryCatch (pyNext (.ref I)) _ >>= _) _ _ s
    refine wpAny_bind (wpAny_tryCatch (W.item (j + 1) s _ _ lt st fun v g t pv st1 kk => ?_))
    have hS1 := kk S _ hSw hS
    show wpAny _ A.in1 (tryCatch (holding [v, v] (richCompare .Lt v x >>= _)) _ >>= _) _ _ _
    refine wpAny_bind (wpAny_tryCatch (wpAny_holding (wpAny_bind (cmp (j + 1) (argBest bt j) v x _ _ _ pv px ?_))))
    refine wpAny_bind (wpAny_holding (wpAny_truthy_bool (wpAny_bind (wpAny_letGo (wpAny_pure ?_)))))
    cases hb : bt (j + 1) (argBest bt j) with
    | true =>
      simp only [if_true]
      refine wpAny_bind (wpAny_updateSeq hS1 rfl (wpAny_bind (wpAny_letGo ?_)))
      rw [nm]
      refine wpAny_pure ⟨plainId_quiet PySem.F.plain_min_loop _, ih (j + 1) _ v _ (by omega) (W.frame _ _ _ st1 fun b bf o q => ?_) (by simp only [argBest, hb, if_true]; exact pv) (Heap.get?_update_self _ hS1 rfl) fun y g2 t2 py k2 => ?_⟩
      · exact (Heap.get?_update_other _ _ (fun z : S = b => hSf (by rw [z]; exact bf))).trans q
      · exact fin y g2 t2 py fun b o b1 b2 q => k2 b o b1 b2 ((Heap.get?_update_other _ _ (Ne.symm b2)).trans (kk b o b1 q))
    | false =>
      simp only [Bool.false_eq_true, if_false]
      refine wpAny_bind (wpAny_letGo ?_)
      rw [nm]
      refine wpAny_pure ⟨plainId_quiet PySem.F.plain_min_loop _, ih (j + 1) _ x c (by omega) st1 (by simp only [argBest, hb, Bool.false_eq_true, if_false]; exact px) hS1 fun y g2 t2 py k2 => ?_⟩
      exact fin y g2 t2 py fun b o b1 b2 q => k2 b o b1 b2 (kk b o b1 q)
theorem minK_first (W : Walks prog w A.in1 I fp wr n P St) (bt : Nat → Nat → Bool) (cmp : CmpOf prog w A.in1 .Lt P bt) (hSf : S ∉ fp) (hn : 0 < n) {s : Shared} {c : Nat} (st : St 0 s.heap)
    (hS : s.heap.get? S = some { cls := .type "list", data := .seq #[] c })
    (fin : ∀ v g t, P (argBest bt (n - 1)) v → (∀ b o, b ∉ wr → b ≠ S → s.heap.get? b = some o → g.get? b = some o) → R (.ok (.ret v)) { s with heap := g, toks := t }) :
    codeAny (model prog w) A (.builtin "min.loop" ⟨[.ref I, .none, .ref S], kw⟩) R s := by
  have hSw : S ∉ wr := fun z => hSf (W.sub _ z)
  have nm : (toString "min" ++ toString ".loop" : String) = "min.loop" := by decide
  refine codeAny_builtin PySem.F.entry_min_loop ?_
  rw [Around.under_plainId PySem.F.plain_min_loop _]
  show wpAny _ A.in1 (seqItems? (.ref S) >>= _) _ _ s
  refine wpAny_bind (wpAny_seqItems hS rfl ?_)
  show wpAny _ A.in1 (tryCatch (pyNext (.ref I)) _ >>= _) _ _ s
  refine wpAny_bind (wpAny_tryCatch (W.item 0 s _ _ hn st fun v g t pv st1 kk => ?_))
  have hS1 := kk S _ hSw hS
  show wpAny _ A.in1 (updateSeq S (fun _ => #[v, v]) >>= _) _ _ _
  refine wpAny_bind (wpAny_updateSeq hS1 rfl ?_)
  rw [nm]
  refine wpAny_pure ⟨plainId_quiet PySem.F.plain_min_loop _, minK_loop W bt cmp hSf (n - 1) 0 _ v _ (by omega) (W.frame _ _ _ st1 fun b bf o q => ?_) pv (Heap.get?_update_self _ hS1 rfl) fun y g2 t2 py k2 => ?_⟩
  · exact (Heap.get?_update_other _ _ (fun z : S = b => hSf (by rw [z]; exact bf))).trans q
  · exact fin y g2 t2 py fun b o b1 b2 q => k2 b o b1 b2 ((Heap.get?_update_other _ _ (Ne.symm b2)).trans (kk b o b1 q))
end
theorem minD_args (a v : Value) : argsOk "min" ⟨[a], [(Str.ofString "default", v)]⟩ := by unfold argsOk; kernel_rfl
section
variable {prog : Program} {w : World} {A : Around} {E : Value → Shared → Prop} {s : Shared} {l : Addr} {zs : Array (Int × Tok)}
theorem call_min_default {d : Value} {Q : Value → Shared → Prop} (hh : A.handled = none) (hl : s.heap.IsList l (intItems zs)) (hne : 0 < zs.size)
    (h : ∀ v g t, (intItems zs)[argBest (fun i j => decide (numAt zs i < numAt zs j)) (zs.size - 1)]? = some v → (∀ b o, s.heap.get? b = some o → g.get? b = some o) → Q v { s with heap := g, toks := t }) :
    wpAny (model prog w) A (call (.builtin "min") [.ref l] [(Str.ofString "default", d)]) Q E s := by
  have nm : (toString "min" ++ toString ".loop" : String) = "min.loop" := by decide
  refine PyProof.Rows.kmk_tree PySem.F.kind_min PySem.F.plain_min PySem.F.entry_min (minD_args _ _) ?_
  refine wpAny_bind (wpAny_of_eq (show Builtin.Builtins.bindParams "min" ["key", "default"] 0 ⟨[], [(Str.ofString "default", d)]⟩ = pure [none, some d] from rfl) ?_)
  refine wpAny_bind (wpAny_pure (wpAny_bind (iter_intList hl fun s2 e st hfp hlI => ?_)))
  subst e
  refine wpAny_bind (wpAny_newObj_type ?_)
  rw [nm]
  have hz : (intItems zs).size = zs.size := by simp [intItems]
  refine wpAny_pure ⟨plainId_quiet PySem.F.plain_min_loop _, minK_first (Walks.list (A := A.in1) hh _ l hlI (intItems zs)) _ (CmpOf.ints_lt (numAt zs) (fun _ _ => intItems_at)) (fun z => Nat.lt_irrefl _ (hfp _ z)) (by rw [hz]; exact hne)
    ⟨⟨_, Heap.get?_push_of_some _ (Heap.get?_push_size _ rfl), rfl, rfl⟩, (hl.push _).push _⟩ (Heap.get?_push_size _ rfl) fun v g t hv k => ?_⟩
  refine h v g t (by rw [hz] at hv; exact hv) fun b o q => k b o ?_ ?_ (Heap.get?_push_of_some _ (Heap.get?_push_of_some _ q))
  · exact fun z => absurd (Heap.lt_size q) (by rw [List.mem_singleton.mp z]; exact Nat.lt_irrefl _)
  · refine Nat.ne_of_lt (Nat.lt_of_lt_of_le (Heap.lt_size q) ?_)
    rw [Heap.size_push]
    exact Nat.le_succ _
end
/-- the least of a list of ints -/
def IsMin (M : Int) (ns : List Int) : Prop := M ∈ ns ∧ ∀ a ∈ ns, M ≤ a
theorem best_min {ns : List Int} {its : List Value} {zs : Array (Int × Tok)} (hi : IntsAre its ns) (e : its.toArray = intItems zs) (hne : 0 < ns.length) : 0 < zs.size ∧ IsMin (numAt zs (argBest (fun i j => decide (numAt zs i < numAt zs j)) (zs.size - 1))) ns := by
  have hns : ns = zs.toList.map (·.1) := by rw [← hi.numsOf, ← nums_intItems, ← e]
  have hsz : 0 < zs.size := by
    have h3 := hne
    rw [hns, List.length_map, Array.length_toList] at h3
    exact h3
  obtain ⟨h1, h2⟩ := argBest_lt (numAt zs) (zs.size - 1)
  refine ⟨hsz, ?_, fun a ha => ?_⟩
  · rw [hns, numAt_eq]
    exact getD_mem (by rw [List.length_map, Array.length_toList]; omega)
  · rw [hns] at ha
    obtain ⟨j, hj, rfl⟩ := mem_getD ha
    rw [List.length_map, Array.length_toList] at hj
    rw [← numAt_eq]
    exact h2 j (by omega)
section
variable {X : Cx}
/-- min(xs, default = d), the list not empty -/
def tMinD (K : PySem.W.Frag) (ta : TA) (td : TE) : TE := fun σ H Q => ta σ H fun vs H1 => td σ H1 fun _ H2 => ∃ (p : Addr) (ns : List Int), vs = [.ref p] ∧ SqL K H2 p (ns.map V.int) ∧ 0 < ns.length ∧ ∀ M, IsMin M ns → Q (.int M) H2
theorem pe_minD {a d : Expr} {ta : TA} {td : TE} {p pos kpos : Pos} (hc : X.calm = true) (hg : Gl X "min") (hm : X.mg "min" = none) (ha : PA X [a] ta) (hd : PE X d td)
    (hv : bootBuiltins "min" = some (.builtin "min"))
    (he : backTo pos (starEach [a] X.env) = (false, eval a X.env) :: backTo pos (starEach [] X.env) := by rfl) (hpl : (backTo pos (starEach [a] X.env)).any (·.1) = false := by rfl)
    (hks : (backToKw pos (keywordEach [⟨some (Str.ofString "default"), d, kpos⟩] X.env)).filterMap (·.1) = [Str.ofString "default"] := by rfl)
    (hall : (backToKw pos (keywordEach [⟨some (Str.ofString "default"), d, kpos⟩] X.env)).all (·.1.isSome) = true := by rfl)
    (hkw : (backToKw pos (keywordEach [⟨some (Str.ofString "default"), d, kpos⟩] X.env)).any (·.1.isNone) = false := by rfl) :
    PE X (.Call (.Name "min" p) [a] [⟨some (Str.ofString "default"), d, kpos⟩] pos) (tMinD X.K ta td) := by
  intro pins s σ H Q I h
  refine wpAny_Call_Name_kw (ld_blt I hg hm hv ?_)
  refine PyProof.Rows.callWith_kw (thn (ha pos pins s σ H _ I h) fun us s1 ⟨vs, H1, I1, r1, q1⟩ => ?_) he hpl hall hkw
  show wpAny _ _ (evalAll ((do let v ← eval d X.env; standAt pos; pure v) :: [])) _ _ s1
  refine wpAny_evalAll_cons (wpAny_bind (thn (hd pins s1 σ H1 _ I1 q1) fun dv s2 ⟨x, H2, I2, _, q2⟩ => wpAny_bind (wpAny_standAt (wpAny_pure (wpAny_evalAll_nil ?_)))))
  obtain ⟨b, ns, rfl, hq, hne, q⟩ := q2
  obtain ⟨u, rfl, rx⟩ := vals1 r1
  cases rx
  rw [hks]
  obtain ⟨its, r', pl, hz⟩ := I2.list hq
  have hi := intsAre_of r'
  obtain ⟨qs, e⟩ := hi.allInts.items
  obtain ⟨hsz, hmn⟩ := best_min hi e hne
  refine call_min_default (zs := qs) (I.ok.hd hc) (by rw [← e]; exact pl.isList) hsz fun v g t hv k => ?_
  obtain ⟨t', rfl⟩ := intItems_at hv
  exact ⟨.int _, H2, I2.kept (t' := t) k, ⟨t', rfl⟩, q _ hmn⟩
end
end L2

set_option Elab.async false
set_option linter.all false
set_option maxRecDepth 100000
set_option maxHeartbeats 4000000
namespace L2
open PySem PySem.Spec PyProof.Rows

/-! ### range(a, b, c), c above 0 -/
/-- lo, lo + st, .. : n of them -/
def Its (lo st : Int) (n : Nat) : It := ⟨fun i _ => i < n, fun i H x H' => H' = H ∧ x = .int (lo + i * st), fun i _ => n ≤ i⟩
theorem turn_step {P : Program} {w : World} {K : PySem.W.Frag} {tg : Expr} (it : Addr) (lo st : Int) (n : Nat) : Turn P w K tg (Its lo st n) [it] it (fun i h => IsRangeIter h it (lo + (i : Nat) * st) ((n : Int) - (i : Nat)) st) where
  mem := by simp
  obj := fun i h q b hb => by
    have e : b = it := by simpa using hb
    subst e
    exact ⟨_, q, fun v z => by
      have z' : Data.fields _ = Data.cell v := z
      cases z'⟩
  keep := fun i h h' q k => k it (by simp) _ q
  item := by
    intro X hP hw hK hc i pins s σ H E I hf q hg
    subst hP hw hK
    obtain ⟨f0, f1, f2, f3, f4, f5⟩ := hf it (by simp)
    have W := Walks.range (prog := X.prog) (w := X.w) (I.ok.hd hc) it lo st n
    refine W.item i s _ _ hg q fun v h' tk hv q' kk => ?_
    obtain ⟨t, rfl⟩ := hv
    have I1 : Inv X pins σ H { s with heap := h', toks := tk } := I.turned (fun b o hb e => kk b o (by simpa using hb) e) f0 f1 f3 f4 f5
    exact ⟨_, rfl, go_of (s := { s with heap := h', toks := tk }) (n := "range_iterator") q' rfl rfl (by decide) ⟨.int (lo + i * st), H, I1, ⟨t, rfl⟩, ⟨rfl, rfl⟩, q', fun b hb => (hf b hb).1⟩⟩
  done := by
    intro X hP hw hK hc i pins s σ H E I hf q hg
    subst hP hw hK
    obtain ⟨f0, f1, f2, f3, f4, f5⟩ := hf it (by simp)
    exact wpAny_pyNext_range_end (I.ok.hd hc) q (by have : n ≤ i := hg; omega) fun h' eb => ⟨rfl, I.turned (t' := s.toks) (fun b o hb e => eb b o hb e) f0 f1 f3 f4 f5⟩
  self := fun _ _ _ _ _ q h => wpAny_pyIter_rangeiter q h
section
variable {X : Cx} {tg : Expr}
/-- range(0, b, 32) -/
def iRng3 (ta : TA) : TI := fun σ H R => ta σ H fun vs H1 => ∃ b : Nat, vs = [.int 0, .int (b : Int), .int 32] ∧ b < 536870912 ∧ R (Its 0 32 ((b + 31) / 32)) H1
theorem rngSize (b : Nat) : Builtin.Range.rangeSize 0 b 32 = (((b + 31) / 32 : Nat) : Int) := by
  unfold Builtin.Range.rangeSize
  rw [if_pos (by decide)]
  split <;> omega
theorem dand {p q : Bool} (hp : p = true) (hq : q = true) : (p && q) = true := by rw [hp, hq]; rfl
theorem rngSmall {b : Nat} (h : b < 536870912) : Builtin.Range.small 0 b 32 = true := by
  unfold Builtin.Range.small Builtin.Range.rangeFitsLong
  rw [rngSize]
  generalize hn : (((b + 31) / 32 : Nat) : Int) = n
  have h1 : n ≤ 16777216 := by omega
  have h0 : 0 ≤ n := by omega
  have e : (2 : Int) ^ 63 = 9223372036854775808 := by decide
  rw [e, if_pos (by decide)]
  refine dand (dand (dand (dand (by decide) (dand (decide_eq_true ?_) (decide_eq_true ?_))) (by decide)) (dand (decide_eq_true ?_) (decide_eq_true ?_))) ?_
  · omega
  · omega
  · omega
  · omega
  · rw [Bool.or_eq_true]
    exact .inr (dand (decide_eq_true (by omega)) (decide_eq_true (by omega)))
theorem pi_range3 {a b c : Expr} {ta : TA} {p pos : Pos} (hg : Gl X "range") (hm : X.mg "range" = none) (ha : PA X [a, b, c] ta) (hs : starEach [a, b, c] X.env = [(false, eval a X.env), (false, eval b X.env), (false, eval c X.env)] := by rfl)
    (hs2 : starEach [b, c] X.env = [(false, eval b X.env), (false, eval c X.env)] := by rfl) : PI X tg (.Call (.Name "range" p) [a, b, c] [] pos) (iRng3 ta) := by
  intro pins s σ H R I h
  refine Call_ (ld_blt I hg hm boot_range (PyProof.Rows.callWith_type1 (thn (ha pos pins s σ H _ I h) fun us s1 ⟨vs, H1, I1, r1, q1⟩ => ?_) (by rw [hs, hs2]) (by rw [hs2]; rfl)))
  obtain ⟨y, e, l1, q⟩ := q1
  subst e
  cases r1 with
  | cons r rr =>
    cases rr with
    | cons r' rr =>
      cases rr with
      | cons r'' rr =>
        cases rr
        obtain ⟨t, rfl⟩ := r
        obtain ⟨t', rfl⟩ := r'
        obtain ⟨t'', rfl⟩ := r''
        refine call_range_3 (by decide) ?_ (.inl (PyProof.noPylong_small (by omega)))
        refine wpAny_pyIter_range (IsRange.new ..) (rngSmall l1) ?_
        have I2 : Inv X pins σ H1 { s1 with heap := s1.heap.push { cls := .type "range", data := .fields #[.int 0 t, .int y t', .int 32 t''] }, toks := s1.toks } := I1.kept fun b o e => Heap.get?_push_of_some _ e
        refine ⟨(s1.heap.push { cls := .type "range", data := .fields #[.int 0 t, .int y t', .int 32 t''] }).objs.size, [(s1.heap.push { cls := .type "range", data := .fields #[.int 0 t, .int y t', .int 32 t''] }).objs.size], _, _, H1, rfl,
          I2.kept (t' := s1.toks) fun b o e => Heap.get?_push_of_some _ e, turn_step _ 0 32 ((y + 31) / 32), ?_, fun b hb => ?_, q⟩
        · have e1 : (0 : Int) + ((0 : Nat) : Int) * 32 = 0 := by decide
          have e2 : (((y + 31) / 32 : Nat) : Int) - ((0 : Nat) : Int) = Builtin.Range.rangeSize 0 y 32 := by rw [rngSize]; simp
          show IsRangeIter _ _ ((0 : Int) + ((0 : Nat) : Int) * 32) ((((y + 31) / 32 : Nat) : Int) - ((0 : Nat) : Int)) 32
          rw [e1, e2]
          exact Heap.get?_push_size _ rfl
        · have e : b = (s1.heap.push { cls := .type "range", data := .fields #[.int 0 t, .int y t', .int 32 t''] }).objs.size := by simpa using hb
          subst e
          exact I2.fpOk (Nat.le_refl _) (I2.hok.fresh (Nat.le_refl _))
end
/-- over range(a, b, c) -/
theorem for_step {lo st : Int} {n : Nat} {g : TG} {tb : TS} {D : Ends} {σ : St} {H : Hp} (Pv : Nat → St → Hp → Prop) (h0 : Pv 0 σ H)
    (hs : ∀ (i : Nat) σ H, i < n → Pv i σ H → g (.int (lo + i * st)) σ H fun σ2 H2 => tb { D with nx := Pv (i + 1), ct := Pv (i + 1), bk := D.nx } σ2 H2) (hd : ∀ σ H, Pv n σ H → D.nx σ H) :
    ∃ W : Nat → Nat → St → Hp → Prop, (∃ m, W 0 m σ H) ∧ ∀ i m σ H, W i m σ H →
      ((Its lo st n).stop i H ∧ D.nx σ H) ∨ ((Its lo st n).go i H ∧ ∃ N : St → Hp → Prop, (∀ σ' H', N σ' H' → ∃ m', m' < m ∧ W (i + 1) m' σ' H') ∧ ∀ x H', (Its lo st n).yld i H x H' → g x σ H' fun σ2 H2 => tb { D with nx := N, ct := N, bk := D.nx } σ2 H2) := by
  refine ⟨fun i m σ H => m = n - i ∧ i ≤ n ∧ Pv i σ H, ⟨n, by simp, Nat.zero_le _, h0⟩, ?_⟩
  rintro i m σ H ⟨rfl, hi, p⟩
  by_cases hlt : i < n
  · refine .inr ⟨hlt, Pv (i + 1), fun σ' H' p' => ⟨n - (i + 1), by omega, rfl, hlt, p'⟩, fun x H' y => ?_⟩
    obtain ⟨rfl, rfl⟩ := y
    exact hs i σ _ hlt p
  · have e : i = n := by omega
    subst e
    exact .inl ⟨Nat.le_refl _, hd σ H p⟩

/-! ### reversed(xs) of a list -/
def Itv (K : PySem.W.Frag) (a : Addr) (xs : List V) : It :=
  ⟨fun i H => SqL K H a xs ∧ i < xs.length, fun i H x H' => H' = H ∧ xs[xs.length - 1 - i]? = some x, fun i _ => xs.length ≤ i⟩
theorem turn_rev {P : Program} {w : World} {K : PySem.W.Frag} {tg : Expr} (a it : Addr) (xs : List V) : Turn P w K tg (Itv K a xs) [it] it (fun i h => i ≤ xs.length ∧ h.IsRevIter it a ((xs.length : Int) - 1 - (i : Nat))) where
  mem := by simp
  obj := fun i h st b hb => by
    have e : b = it := by simpa using hb
    subst e
    obtain ⟨_, o, e, c, d⟩ := st
    exact ⟨o, e, fun v z => by rw [d] at z; cases z⟩
  keep := fun i h h' st k => ⟨st.1, st.2.at fun o e => k it (by simp) o e⟩
  item := by
    intro X hP hw hK hc i pins s σ H E I hf st hg
    subst hP hw hK
    obtain ⟨hq, hi⟩ := hg
    obtain ⟨its, rv, p, hz⟩ := I.list hq
    obtain ⟨x, hx⟩ : ∃ x, xs[xs.length - 1 - i]? = some x := ⟨_, List.getElem?_eq_getElem (by omega)⟩
    obtain ⟨u, hu, ru⟩ := rv.get hx
    obtain ⟨f0, f1, f2, f3, f4, f5⟩ := hf it (by simp)
    obtain ⟨hle, st⟩ := st
    have e : (xs.length : Int) - 1 - (i : Nat) = ((xs.length - 1 - i : Nat) : Int) := by omega
    rw [e] at st
    refine wpAny_pyNext_rev_item st p.isList (x := u) (by simpa using hu) fun h' st' sb => ?_
    have I1 : Inv X pins σ H { s with heap := h' } := I.turned (t' := s.toks) (fun b o hb e => (sb.2 b hb).trans e) f0 f1 f3 f4 f5
    have e2 : ((xs.length - 1 - i : Nat) : Int) - 1 = (xs.length : Int) - 1 - ((i + 1 : Nat) : Int) := by omega
    rw [e2] at st'
    obtain ⟨o, e, c, d⟩ := id st'
    exact ⟨u, rfl, go_of (s := { s with heap := h' }) e c d (by decide) ⟨x, H, I1, ru, ⟨rfl, hx⟩, ⟨by omega, st'⟩, fun b hb => (hf b hb).1⟩⟩
  done := by
    intro X hP hw hK hc i pins s σ H E I hf st hg
    subst hP hw hK
    obtain ⟨f0, f1, f2, f3, f4, f5⟩ := hf it (by simp)
    obtain ⟨hle, st⟩ := st
    have e : (xs.length : Int) - 1 - (i : Nat) = -1 := by have : xs.length ≤ i := hg; omega
    rw [e] at st
    exact wpAny_pyNext_rev_end (I.ok.hd hc) st fun h' eb => ⟨rfl, I.turned (t' := s.toks) (fun b o hb e => eb b o hb e) f0 f1 f3 f4 f5⟩
  self := fun _ _ _ _ _ st h => wpAny_pyIter_revIter st.2 h
section
variable {X : Cx} {tg : Expr}
def iRev (K : PySem.W.Frag) (ta : TA) : TI := fun σ H R => ta σ H fun vs H1 => ∃ a xs, vs = [.ref a] ∧ SqL K H1 a xs ∧ R (Itv K a xs) H1
theorem pi_rev {a : Expr} {ta : TA} {p pos : Pos} (hg : Gl X "reversed") (hm : X.mg "reversed" = none) (ha : PA X [a] ta) (hv : bootBuiltins "reversed" = some (.type "reversed")) (hs : starEach [a] X.env = [(false, eval a X.env)] := by rfl) :
    PI X tg (.Call (.Name "reversed" p) [a] [] pos) (iRev X.K ta) := by
  intro pins s σ H R I h
  refine Call_ (ld_blt I hg hm hv (PyProof.Rows.callWith_type1 (thn (ha pos pins s σ H _ I h) fun us s1 ⟨vs, H1, I1, r1, q1⟩ => ?_) hs rfl))
  obtain ⟨b, xs, e, hq, q⟩ := q1
  subst e
  obtain ⟨u, rfl, rx⟩ := vals1 r1
  cases rx
  obtain ⟨its, rv, pl, hz⟩ := I1.list hq
  refine call_reversed_list pl.isList ?_
  have hl := rv.length
  have st : ({ s1 with heap := s1.heap.push (revObj b ((its.toArray.size : Int) - 1)) } : Shared).heap.IsRevIter s1.heap.objs.size b ((xs.length : Int) - 1 - ((0 : Nat) : Int)) := by
    refine ⟨_, Heap.get?_push_size _ rfl, rfl, ?_⟩
    show Data.fields #[.ref b, rawInt ((its.toArray.size : Int) - 1)] = _
    have e : (its.toArray.size : Int) - 1 = (xs.length : Int) - 1 - ((0 : Nat) : Int) := by simp; omega
    rw [e]
  refine wpAny_pyIter_revIter st ?_
  have I2 : Inv X pins σ H1 { s1 with heap := s1.heap.push (revObj b ((its.toArray.size : Int) - 1)) } := I1.kept (t' := s1.toks) fun c o e => Heap.get?_push_of_some _ e
  refine ⟨s1.heap.objs.size, [s1.heap.objs.size], _, Itv X.K b xs, H1, rfl, I2, turn_rev b _ xs, ⟨Nat.zero_le _, st⟩, fun c hc => ?_, q⟩
  have e : c = s1.heap.objs.size := by simpa using hc
  subst e
  exact I1.fpOk (Nat.le_refl _) (I1.hok.fresh (Nat.le_refl _))
end
/-- over reversed(xs), the list left as it is -/
theorem for_rev {K : PySem.W.Frag} {a : Addr} {xs : List V} {g : TG} {tb : TS} {D : Ends} {σ : St} {H : Hp} (Pv : Nat → St → Hp → Prop) (h0 : Pv 0 σ H) (hl : ∀ i σ H, i ≤ xs.length → Pv i σ H → SqL K H a xs)
    (hs : ∀ i x σ H, i < xs.length → xs[xs.length - 1 - i]? = some x → Pv i σ H → g x σ H fun σ2 H2 => tb { D with nx := Pv (i + 1), ct := Pv (i + 1), bk := D.nx } σ2 H2) (hd : ∀ σ H, Pv xs.length σ H → D.nx σ H) :
    ∃ W : Nat → Nat → St → Hp → Prop, (∃ m, W 0 m σ H) ∧ ∀ i m σ H, W i m σ H →
      ((Itv K a xs).stop i H ∧ D.nx σ H) ∨ ((Itv K a xs).go i H ∧ ∃ N : St → Hp → Prop, (∀ σ' H', N σ' H' → ∃ m', m' < m ∧ W (i + 1) m' σ' H') ∧ ∀ x H', (Itv K a xs).yld i H x H' → g x σ H' fun σ2 H2 => tb { D with nx := N, ct := N, bk := D.nx } σ2 H2) := by
  refine ⟨fun i m σ H => m = xs.length - i ∧ i ≤ xs.length ∧ Pv i σ H, ⟨xs.length, by simp, Nat.zero_le _, h0⟩, ?_⟩
  rintro i m σ H ⟨rfl, hi, p⟩
  by_cases hlt : i < xs.length
  · refine .inr ⟨⟨hl i σ H hi p, hlt⟩, Pv (i + 1), fun σ' H' p' => ⟨xs.length - (i + 1), by omega, rfl, hlt, p'⟩, fun x H' y => ?_⟩
    obtain ⟨rfl, hx⟩ := y
    exact hs i x σ _ hlt hx p
  · have e : i = xs.length := by omega
    subst e
    exact .inl ⟨Nat.le_refl _, hd σ H p⟩
end L2

set_option Elab.async false
set_option linter.all false
set_option maxRecDepth 100000
set_option maxHeartbeats 4000000
namespace L2
open PySem PySem.Spec PyProof.Rows

/-! ### == and != of lists and tuples -/
mutual
/-- what a value is as data -/
inductive DatV (K : PySem.W.Frag) (H : Hp) : V → PyData → Prop where
  | non : DatV K H .non .none
  | bl (b : Bool) : DatV K H (.bl b) (.bool b)
  | int (i : Int) : DatV K H (.int i) (.int i)
  | str (x : Str) : DatV K H (.str x) (.str x)
  | lst {a : Addr} {xs : List V} {ds : List PyData} (h : SqL K H a xs) (r : DatVs K H xs ds) : DatV K H (.ref a) (.list ds)
  | tup {a : Addr} {xs : List V} {ds : List PyData} (h : SqT K H a xs) (r : DatVs K H xs ds) : DatV K H (.ref a) (.tuple ds)
inductive DatVs (K : PySem.W.Frag) (H : Hp) : List V → List PyData → Prop where
  | nil : DatVs K H [] []
  | cons {x : V} {xs : List V} {d : PyData} {ds : List PyData} (h : DatV K H x d) (r : DatVs K H xs ds) : DatVs K H (x :: xs) (d :: ds)
end
section
variable {X : Cx} {pins : List (Addr × Obj)} {σ : St} {H : Hp} {s : Shared}
mutual
theorem DatV.reads (I : Inv X pins σ H s) {x : V} {d : PyData} {u : Value} : DatV X.K H x d → RelV x u → ∃ as, Reads s.heap u d as
  | .non, r => ⟨_, by cases (show u = Value.none from r); exact .none⟩
  | .bl b, r => ⟨_, by cases (show u = Value.bool b from r); exact .bool b⟩
  | .int i, r => by
    obtain ⟨t, rfl⟩ := r
    exact ⟨_, .int i t⟩
  | .str y, r => by
    obtain ⟨t, rfl⟩ := r
    exact ⟨_, .str y t⟩
  | .lst (a := a) h q, r => by
    cases (show u = Value.ref a from r)
    obtain ⟨its, rv, p, _⟩ := I.list h
    obtain ⟨as, ra⟩ := DatVs.reads I q rv
    obtain ⟨o, n, e, c, _, d⟩ := p
    exact ⟨_, .list e c d (by simpa using ra)⟩
  | .tup (a := a) h q, r => by
    cases (show u = Value.ref a from r)
    obtain ⟨its, rv, p, _⟩ := I.tuple h
    obtain ⟨as, ra⟩ := DatVs.reads I q rv
    obtain ⟨o, e, c, n, d⟩ := p
    exact ⟨_, .tuple e c d (by simpa using ra)⟩
theorem DatVs.reads (I : Inv X pins σ H s) {xs : List V} {ds : List PyData} {us : List Value} : DatVs X.K H xs ds → Vals xs us → ∃ as, ReadsAll s.heap us ds as
  | .nil, r => by
    cases r
    exact ⟨_, .nil⟩
  | .cons h q, r => by
    cases r with
    | cons r1 r2 =>
      obtain ⟨as, ra⟩ := DatV.reads I h r1
      obtain ⟨bs, rb⟩ := DatVs.reads I q r2
      exact ⟨_, .cons ra rb⟩
end
end
/-- two lists of ints; any two things by their data -/
def rEqL (K : PySem.W.Frag) : R2 := fun x y H Q => ∃ (a b : Addr) (ns ms : List Int), x = .ref a ∧ y = .ref b ∧ SqL K H a (ns.map V.int) ∧ SqL K H b (ms.map V.int) ∧ Q (.bl (decide (ns = ms))) H
def rEqP (K : PySem.W.Frag) : R2 := fun x y H Q => ∃ d1 d2 : PyData, DatV K H x d1 ∧ DatV K H y d2 ∧ SeqAt.shaped d1 = true ∧ SeqAt.shaped d2 = true ∧ Q (.bl (PyData.eqv d1 d2)) H
def rNeL (K : PySem.W.Frag) : R2 := fun x y H Q => ∃ (a b : Addr) (ns ms : List Int), x = .ref a ∧ y = .ref b ∧ SqL K H a (ns.map V.int) ∧ SqL K H b (ms.map V.int) ∧ Q (.bl (!decide (ns = ms))) H
def rNeP (K : PySem.W.Frag) : R2 := fun x y H Q => ∃ d1 d2 : PyData, DatV K H x d1 ∧ DatV K H y d2 ∧ SeqAt.shaped d1 = true ∧ SeqAt.shaped d2 = true ∧ Q (.bl (!PyData.eqv d1 d2)) H
section
variable {X : Cx}
theorem op_eqD (hu : X.A.units + 64 < cLine) : OpR X (compareOp .Eq) (fun x y H Q => rEqL X.K x y H Q ∨ rEqP X.K x y H Q) := by
  intro pins s σ H x y u v Q I rx ry h
  rcases h with ⟨a, b, ns, ms, rfl, rfl, ha, hb, q⟩ | ⟨d1, d2, h1, h2, e1, e2, q⟩
  · cases (show u = Value.ref a from rx)
    cases (show v = Value.ref b from ry)
    obtain ⟨us, r1, p1, _⟩ := I.list ha
    obtain ⟨ws, r2, p2, _⟩ := I.list hb
    exact PySem.W.ke_eq_ints p1.isList p2.isList (intsAre_of r1) (intsAre_of r2) hu ⟨.bl _, H, I, rfl, q⟩
  · obtain ⟨as, ra⟩ := h1.reads I rx
    obtain ⟨bs, rb⟩ := h2.reads I ry
    exact eq_dataH ra rb e1 e2 hu ⟨.bl _, H, I, rfl, q⟩
theorem op_neD (hu : X.A.units + 64 < cLine) : OpR X (compareOp .NotEq) (fun x y H Q => rNeL X.K x y H Q ∨ rNeP X.K x y H Q) := by
  intro pins s σ H x y u v Q I rx ry h
  rcases h with ⟨a, b, ns, ms, rfl, rfl, ha, hb, q⟩ | ⟨d1, d2, h1, h2, e1, e2, q⟩
  · cases (show u = Value.ref a from rx)
    cases (show v = Value.ref b from ry)
    obtain ⟨us, r1, p1, _⟩ := I.list ha
    obtain ⟨ws, r2, p2, _⟩ := I.list hb
    exact PySem.W.ke_ne_ints p1.isList p2.isList (intsAre_of r1) (intsAre_of r2) hu ⟨.bl _, H, I, rfl, q⟩
  · obtain ⟨as, ra⟩ := h1.reads I rx
    obtain ⟨bs, rb⟩ := h2.reads I ry
    exact ne_dataH ra rb e1 e2 hu ⟨.bl _, H, I, rfl, q⟩
end
end L2

set_option Elab.async false
set_option linter.all false
set_option maxRecDepth 100000
set_option maxHeartbeats 4000000
namespace Tw
open PySem L2
/-! ### comprehensions whose items read the heap as it was -/
theorem comp_rngS {lo : Int} {n : Nat} {cap : L2.St} {tt : TT} {te : TE} {Qf : Addr → Hp → Prop} {H : Hp} (f : Nat → Int) (hl : n < sizeLine)
    (htt : ∀ (z : Int) (H' : Hp) (Q : Bool → Hp → Prop), Q true H' → tt (some (.int z) :: cap) H' Q) (hte : ∀ (i : Nat) (H' : Hp) (Q : VK), i < n → Same H H' → Q (.int (f i)) H' → te (some (.int (lo + i)) :: cap) H' Q)
    (q : ∀ D, H D = none → Qf D (upd H D (.lst (((List.range n).map f).map V.int)))) : rdComp (Itr lo n) cap tt te Qf H := by
  intro D hD
  refine ⟨fun i m ys H1 => m = n - i ∧ i ≤ n ∧ ys = ((List.range i).map f).map V.int ∧ H1 = upd H D (.lst ys), ⟨_, rfl, Nat.zero_le _, rfl, rfl⟩, ?_⟩
  rintro i m ys H1 ⟨rfl, hi, rfl, rfl⟩
  by_cases hlt : i < n
  · refine .inr ⟨hlt, fun v H2 y => ?_⟩
    obtain ⟨rfl, rfl⟩ := y
    refine htt _ _ _ ?_
    rw [if_pos rfl]
    refine hte i _ _ hlt (same_new hD _) ⟨upd_same, ?_, n - (i + 1), by omega, rfl, hlt, ?_, ?_⟩
    · rw [List.length_map, List.length_map, List.length_range]
      omega
    · rw [List.range_succ, List.map_append, List.map_append]
      rfl
    · rw [upd_upd]
  · have e : i = n := by omega
    subst e
    exact .inl ⟨Nat.le_refl _, q D hD⟩
theorem comp_mapS {K : PySem.W.Frag} {a : Addr} {ns : List Int} {cap : L2.St} {tt : TT} {te : TE} {Qf : Addr → Hp → Prop} {H : Hp} (g : Int → Int) (hS : SqL K H a (ns.map V.int)) (hl : ns.length < sizeLine)
    (htt : ∀ (z : Int) (H' : Hp) (Q : Bool → Hp → Prop), Q true H' → tt (some (.int z) :: cap) H' Q) (hte : ∀ (z : Int) (H' : Hp) (Q : VK), Same H H' → Q (.int (g z)) H' → te (some (.int z) :: cap) H' Q)
    (q : ∀ D, H D = none → Qf D (upd H D (.lst ((ns.map g).map V.int)))) : rdComp (Itl K a) cap tt te Qf H := by
  intro D hD
  refine ⟨fun i m ys H1 => m = ns.length - i ∧ i ≤ ns.length ∧ ys = ((ns.take i).map g).map V.int ∧ H1 = upd H D (.lst ys), ⟨_, rfl, Nat.zero_le _, rfl, rfl⟩, ?_⟩
  rintro i m ys H1 ⟨rfl, hi, rfl, rfl⟩
  have hS1 : SqL K (upd H D (.lst (((ns.take i).map g).map V.int))) a (ns.map V.int) := (same_new hD _).seq hS
  by_cases hlt : i < ns.length
  · have hg : (ns.map V.int)[i]? = some (.int ns[i]) := by
      rw [List.getElem?_map, List.getElem?_eq_getElem hlt]
      rfl
    refine .inr ⟨⟨_, _, hS1, hg⟩, fun v H2 y => ?_⟩
    obtain ⟨rfl, y⟩ := y
    have e := y _ hS1
    rw [hg] at e
    cases e
    refine htt _ _ _ ?_
    rw [if_pos rfl]
    refine hte _ _ _ (same_new hD _) ⟨upd_same, ?_, ns.length - (i + 1), by omega, rfl, hlt, ?_, ?_⟩
    · rw [List.length_map, List.length_map, List.length_take]
      omega
    · rw [List.take_add_one, List.getElem?_eq_getElem hlt, List.map_append, List.map_append]
      rfl
    · rw [upd_upd]
  · have e : i = ns.length := by omega
    subst e
    rw [List.take_length]
    rw [List.take_length] at hS1
    exact .inl ⟨⟨_, hS1, by rw [List.length_map]; exact Nat.le_refl _⟩, q D hD⟩
end Tw
namespace Tw
open PySem L2
theorem st_way {c A : Prop} [Decidable c] {D : Ends} {σ : St} {H : Hp} (R : St → Hp → Prop) (hR : R σ H) (h : ∀ σ' H', R σ' H' → D.nx σ' H') (hA : c → (∀ σ' H', R σ' H' → D.nx σ' H') → A) : if c then A else tNext D σ H := by
  by_cases q : c
  · rw [if_pos q]
    exact hA q h
  · rw [if_neg q]
    exact h _ _ hR
theorem st_wayN {c A : Prop} [Decidable c] {D : Ends} {σ : St} {H : Hp} (R : St → Hp → Prop) (hR : ¬ c → R σ H) (h : ∀ σ' H', R σ' H' → D.nx σ' H') (hA : c → (∀ σ' H', R σ' H' → D.nx σ' H') → A) : if c then A else tNext D σ H := by
  by_cases q : c
  · rw [if_pos q]
    exact hA q h
  · rw [if_neg q]
    exact h _ _ (hR q)
/-- [..] * n, n a name -/
theorem rep_way {t : TA} {i : Nat} {k : Int} {xs : List V} {σ : St} {H : Hp} {Q : VK} (ht : ∀ Q' : List V → Hp → Prop, Q' xs H → t σ H Q') (e : σ[i]? = some (some (.int k))) (hk : k ≤ 100000) (hx : xs.length ≤ 2) (h0 : -100000 ≤ k)
    (q : ∀ p H', H p = none → Same H H' → H' p = some (.lst (List.replicate k.toNat xs).flatten) → Q (.ref p) H') : tOp rRep (tLst t) (tVar i) σ H Q := by
  refine ht _ ⟨by rw [sizeLine_eq]; omega, fun p hp => ⟨_, e, p, k, xs, rfl, rfl, upd_same, by omega, by omega, ?_, fun r hr => q r _ ((same_new hp _).free hr) ((same_new hp _).trans (same_new hr _)) upd_same⟩⟩
  rw [sizeLine_eq]
  have : k.toNat ≤ 100000 := by omega
  have := Nat.mul_le_mul hx this
  omega
end Tw
namespace L2
open PySem PySem.Spec PyProof.Rows PySem.W
section
variable {X : Cx}
end
end L2
namespace Tw
open PySem L2
end Tw
namespace Tw
open PySem L2
/-- the items of a list of ints that pass a test -/
theorem comp_filtS {K : PySem.W.Frag} {a : Addr} {ns : List Int} {cap : L2.St} {tt : TT} {te : TE} {Qf : Addr → Hp → Prop} {H : Hp} (p : Int → Bool) (hS : SqL K H a (ns.map V.int)) (hl : ns.length < sizeLine)
    (htt : ∀ (z : Int) (H' : Hp) (Q : Bool → Hp → Prop), Same H H' → Q (p z) H' → tt (some (.int z) :: cap) H' Q) (hte : ∀ (z : Int) (H' : Hp) (Q : VK), Same H H' → Q (.int z) H' → te (some (.int z) :: cap) H' Q)
    (q : ∀ D, H D = none → Qf D (upd H D (.lst ((ns.filter p).map V.int)))) : rdComp (Itl K a) cap tt te Qf H := by
  intro D hD
  refine ⟨fun i m ys H1 => m = ns.length - i ∧ i ≤ ns.length ∧ ys = ((ns.take i).filter p).map V.int ∧ H1 = upd H D (.lst ys), ⟨_, rfl, Nat.zero_le _, rfl, rfl⟩, ?_⟩
  rintro i m ys H1 ⟨rfl, hi, rfl, rfl⟩
  have hS1 : SqL K (upd H D (.lst (((ns.take i).filter p).map V.int))) a (ns.map V.int) := (same_new hD _).seq hS
  by_cases hlt : i < ns.length
  · have hg : (ns.map V.int)[i]? = some (.int ns[i]) := by
      rw [List.getElem?_map, List.getElem?_eq_getElem hlt]
      rfl
    have et : ns.take (i + 1) = ns.take i ++ [ns[i]] := by
      rw [List.take_add_one, List.getElem?_eq_getElem hlt]
      rfl
    refine .inr ⟨⟨_, _, hS1, hg⟩, fun v H2 y => ?_⟩
    obtain ⟨rfl, y⟩ := y
    have e := y _ hS1
    rw [hg] at e
    cases e
    refine htt _ _ _ (same_new hD _) ?_
    have hz := List.length_filter_le p (ns.take i)
    rw [List.length_take] at hz
    by_cases hp : p ns[i] = true
    · rw [if_pos hp]
      refine hte _ _ _ (same_new hD _) ⟨upd_same, ?_, ns.length - (i + 1), by omega, rfl, hlt, ?_, ?_⟩
      · rw [List.length_map]
        omega
      · rw [et, List.filter_append, List.map_append, List.filter_cons_of_pos hp]
        rfl
      · rw [upd_upd]
    · rw [if_neg hp]
      refine ⟨ns.length - (i + 1), by omega, rfl, hlt, ?_, rfl⟩
      rw [et, List.filter_append, List.filter_cons_of_neg hp, List.filter_nil, List.append_nil]
  · have e : i = ns.length := by omega
    subst e
    rw [List.take_length]
    rw [List.take_length] at hS1
    exact .inl ⟨⟨_, hS1, by rw [List.length_map]; exact Nat.le_refl _⟩, q D hD⟩
end Tw

set_option Elab.async false
set_option linter.all false
set_option maxRecDepth 100000
set_option maxHeartbeats 4000000
namespace L2
open PySem PySem.Spec PyProof.Rows

/-! ### exceptions of own classes: raised, passing -/
theorem ObjOk.ex {P : Program} {w : World} {H : Hp} {h : Heap} {a : Addr} {o : HO} (x : ObjOk P w H h a o) : ∃ ob, h.get? a = some ob := by
  induction o with
  | lst xs => obtain ⟨z, its, n, r, e⟩ := x; exact ⟨_, e⟩
  | tup xs => obtain ⟨z, its, r, ob, e, c⟩ := x; exact ⟨_, e⟩
  | dK kvs => obtain ⟨z, y, vs, r, ob, es, ep, e, c⟩ := x; exact ⟨_, e⟩
  | dT kvs => obtain ⟨z, y, xs, r, ob, es, ep, e, c⟩ := x; exact ⟨_, e⟩
  | set S n => obtain ⟨ob, es, ep, t, e, c⟩ := x; exact ⟨_, e⟩
  | ins C dx fs => obtain ⟨d, z, ne, e, _⟩ := x; exact ⟨_, e⟩
  | own y => exact x
  | xd fs => obtain ⟨mA, ⟨od, es, ep, e, c⟩, r⟩ := x; exact ⟨_, e⟩
  | rng lo hi => obtain ⟨t, u, v, e⟩ := x; exact ⟨_, e⟩
  | frz ob u ih => exact ⟨_, x.1⟩
  | tbl ps => exact ⟨_, x⟩
  | met f y => exact ⟨_, x⟩
  | ext φ => exact x.2.1
/-- the heap B: what a passing exception leaves alone: all that stood there, frames aside, and all that is tracked -/
structure Cov (B : Heap) (fs : List Addr) (H H' : Hp) (h : Heap) : Prop where
  old : ∀ b o, h.get? b = some o → b ∉ fs → ∃ o', B.get? b = some o' ∧ (H b = none → o' = o)
  trk : ∀ b u, H' b = some u → ∃ o, B.get? b = some o
/-- how an exception of an own class lies behind a call -/
def CX1 (P : Program) (w : World) : CXT := fun outer H s E e s' => ∃ (ea C t : Addr) (B : Heap) (H' : Hp), e = .ref ea ∧ s'.os = s.os ∧ AllBare s'.gens ∧ Un (frs outer) [] H H' s.heap s'.heap ∧ HOk P w H' s'.heap ∧
    Heap.FlyingW B outer ea (.ref C) (.ref t) s'.heap ∧ Cov B (frs outer) H H' s.heap ∧ E (.ref C) none H'
section
variable {P : Program} {w : World} {K : PySem.W.Frag} {mg : Str → Option Value} {base : Heap} {N : List Str} {qual : Str} {scope : Scope} {f : Addr} {cd : Value} {A : Around} {outer : List Env} {s0 : Shared} {H0 : Hp} {E : XK}
abbrev X1 (P : Program) (w : World) (K : PySem.W.Frag) (mg : Str → Option Value) (base : Heap) (N : List Str) (qual : Str) (scope : Scope) (f : Addr) (cd : Value) (A : Around) (outer : List Env) (s0 : Shared) (H0 : Hp) (E : XK) : Cx :=
  cxOf (CX1 P w) P w K mg base N qual scope f cd A outer s0 H0 E
theorem young {b : Addr} {o : Obj} (q : s0.heap.get? b = some o) (hb : b ∉ frs outer) : b ∉ frs (envOfC qual scope s0.heap.objs.size f cd :: outer) := fun z => by
  have z' : b ∈ s0.heap.objs.size :: frs outer := z
  rcases List.mem_cons.mp z' with e | e
  · exact absurd (Heap.lt_size q) (by rw [e]; exact Nat.lt_irrefl _)
  · exact hb e
theorem raised {pins : List (Addr × Obj)} {σ : St} {H : Hp} {s : Shared} {h1 : Heap} {ea C : Addr} {vs : List Value} (I : Inv (X1 P w K mg base N qual scope f cd A outer s0 H0 E) pins σ H s) (m : Heap.MadeExcOf s.heap h1 ea (.ref C) vs) (q : E (.ref C) none H) :
    (X1 P w K mg base N qual scope f cd A outer s0 H0 E).xe (.ref ea) { s with heap := h1 } := by
  have stk : s.heap.FunFrames base (envOfC qual scope s0.heap.objs.size f cd :: outer) := I.stack
  have hin : ∀ env ∈ (envOfC qual scope s0.heap.objs.size f cd :: outer), ∀ b, env.frame = some b → b ∈ frs (envOfC qual scope s0.heap.objs.size f cd :: outer) := fun env he b hb => List.mem_filterMap.mpr ⟨env, he, hb⟩
  have U : Un (frs outer) [] H0 H s0.heap s.heap := I.base
  have nofr : ∀ b u, H b = some u → b ∉ frs (envOfC qual scope s0.heap.objs.size f cd :: outer) := fun b u e z => by
    have := I.stkFree b z
    rw [this] at e
    cases e
  have inB : ∀ b o, s.heap.get? b = some o → b ∉ frs (envOfC qual scope s0.heap.objs.size f cd :: outer) → (PySem.W.hideAll s.heap (frs (envOfC qual scope s0.heap.objs.size f cd :: outer))).get? b = some o := fun b o e n => PySem.W.hideAll_get _ e n
  show wpAny _ _ (leaving _ _) _ _ _
  refine wpAny_leaves_madeW (base := PySem.W.hideAll s.heap (frs (envOfC qual scope s0.heap.objs.size f cd :: outer))) I.ok.frames rfl (fun b o e => PySem.W.of_hideAll _ e) (PySem.W.funFrames_hide stk hin) m fun h2 t x1 x2 x3 x4 => ?_
  have kept := x1.1
  have fr : ∀ b o, s.heap.get? b = some o → b ∈ frs outer → ∃ sl, h2.get? b = some { o with slots := sl } := fun b o e hb => by
    obtain ⟨_, o', ho', nf⟩ := stk.mem (b := b) (List.mem_cons_of_mem _ hb)
    rw [e] at ho'
    cases ho'
    exact x4 b o (m.keeps _ _ e) nf
  refine ⟨ea, C, t, _, H, rfl, I.os, I.bare, ⟨fun b o e n hb hx => ?_, fun b o e n hb hx => ?_, U.free, fun b o e hx => ?_, U.tups, U.frzs, U.tbls⟩, fun b u e => ?_, x1, ⟨fun b o e hb => ?_, fun b u e => ?_⟩, q⟩
  · exact kept b o (inB b o (U.keep b o e n hb hx) (young e hb))
  · obtain ⟨sl, e1⟩ := U.slot b o e n hb hx
    obtain ⟨sl', e2⟩ := fr b _ e1 hb
    exact ⟨sl', e2⟩
  · obtain ⟨o1, e1⟩ := U.there b o e hx
    by_cases hb : b ∈ frs outer
    · obtain ⟨sl, e2⟩ := fr b _ e1 hb
      exact ⟨_, e2⟩
    · exact ⟨o1, kept b o1 (inB b o1 e1 (young e hb))⟩
  · refine (I.hok b u e).stay (fun c o hc e1 => kept c o (inB c o e1 ?_)) (fun _ r => r) fun _ _ r => r
    rcases hc with rfl | hc
    · exact nofr _ _ e
    · exact nofr _ _ hc
  · obtain ⟨o1, e1⟩ := U.there b o e (by simp)
    refine ⟨o1, inB b o1 e1 (young e hb), fun n => ?_⟩
    have := U.keep b o e n hb (by simp)
    rw [e1] at this
    exact Option.some.inj this
  · obtain ⟨o, e1⟩ := (I.hok b u e).ex
    exact ⟨o, inB b o e1 (nofr b u e)⟩
/-- an exception of a callee leaves this frame, too -/
theorem pass1 : Passes (CX1 P w) (X1 P w K mg base N qual scope f cd A outer s0 H0 E) E := by
  intro pins σ H s e s' I h
  obtain ⟨ea, C, t, B, H', rfl, os, bare, un, hok, fl, cov, q⟩ := h
  have U : Un (frs outer) [] H0 H s0.heap s.heap := I.base
  show wpAny _ _ (leaving _ _) _ _ _
  refine wpAny_leaves_onW (base := B) I.ok.frames rfl fl fun h2 x1 x2 => ?_
  have kept := x1.1
  have fr : ∀ b o, s'.heap.get? b = some o → b ∈ frs outer → ∃ sl, h2.get? b = some { o with slots := sl } := fun b o e hb => by
    obtain ⟨_, o', ho', nf⟩ := fl.2.2.1.mem (b := b) (List.mem_cons_of_mem _ hb)
    rw [e] at ho'
    cases ho'
    exact x2 b o e nf
  refine ⟨ea, C, t, B, H', rfl, os.trans I.os, bare, ⟨fun b o e n hb hx => ?_, fun b o e n hb hx => ?_, fun b o e n hx => ?_, fun b o e hx => ?_, fun b xs e => un.tups b xs (U.tups b xs e), fun b o u e => un.frzs b o u (U.frzs b o u e), fun b ps e => ?_⟩, fun b u e => ?_, x1, ⟨fun b o e hb => ?_, cov.trk⟩, q⟩
  · obtain ⟨o', e2, z⟩ := cov.old b o (U.keep b o e n hb hx) (young e hb)
    rw [z (U.free b o e n hx)] at e2
    exact kept b o e2
  · obtain ⟨sl, e1⟩ := U.slot b o e n hb hx
    obtain ⟨sl', e2⟩ := un.slot b _ e1 (U.free b o e n hx) (List.mem_cons_of_mem _ hb) hx
    obtain ⟨sl2, e3⟩ := fr b _ e2 hb
    exact ⟨sl2, e3⟩
  · obtain ⟨o1, e1⟩ := U.there b o e hx
    exact un.free b o1 e1 (U.free b o e n hx) hx
  · obtain ⟨o1, e1⟩ := U.there b o e hx
    by_cases hb : b ∈ frs outer
    · obtain ⟨o2, e2⟩ := un.there b o1 e1 hx
      obtain ⟨sl, e3⟩ := fr b _ e2 hb
      exact ⟨_, e3⟩
    · obtain ⟨o', e2, _⟩ := cov.old b o1 e1 (young e hb)
      exact ⟨o', kept b o' e2⟩
  · obtain ⟨m1, e1⟩ := U.tbls b ps e
    obtain ⟨m2, e2⟩ := un.tbls b _ e1
    exact ⟨m1 ++ m2, by rw [e2, Array.append_assoc]⟩
  · refine (hok b u e).stay (fun c o hc e1 => ?_) (fun _ r => r) fun _ _ r => r
    have ht : ∃ o, B.get? c = some o := by
      rcases hc with rfl | hc
      · exact cov.trk _ _ e
      · exact cov.trk _ _ hc
    obtain ⟨o1, e2⟩ := ht
    have := fl.1 c o1 e2
    rw [e1] at this
    cases this
    exact kept c o e2
  · obtain ⟨o1, e1⟩ := U.there b o e (by simp)
    obtain ⟨o', e2, z⟩ := cov.old b o1 e1 (young e hb)
    refine ⟨o', e2, fun n => ?_⟩
    have := U.keep b o e n hb (by simp)
    rw [e1] at this
    rw [z (U.free b o e n (by simp))]
    exact Option.some.inj this
theorem passOwn : PassesOwn (model P w) (X1 P w K mg base N qual scope f cd A outer s0 H0 E).A (X1 P w K mg base N qual scope f cd A outer s0 H0 E).env (X1 P w K mg base N qual scope f cd A outer s0 H0 E).xe := PassesOwn.leaving
end
section
variable {P : Program} {w : World} {K : PySem.W.Frag} {mg : Str → Option Value} {base : Heap}
/-- the rule for a def that may raise -/
theorem Fun.ok1 {x qual : Str} {st : Stmt} {f : Addr} {fd : FuncData} {N ps : List Str} {k : Nat} {sp : Sp} (F : Fun K x qual st f fd) (S : FnScope N ps (defScope st)) (len : ∀ vs H Q E, sp vs H Q E → vs.length = ps.length)
    (hbody : ∀ (cdv : Value) (A : Around) (outer : List Env) (s : Shared) (H : Hp) (vs : List V) (Q : VK) (E : XK), Room k (A.deeper (envOfC qual (defScope st) s.heap.objs.size f cdv)) → sp vs H Q E →
      ∃ t, PSs (X1 P w K mg base N qual (defScope st) f cdv A outer s H E) (defBody st) t ∧ t { nx := fun _ H' => Q .non H', rt := Q } (start N vs) H) : FnOk P w K mg base (CX1 P w) (k + 1) f fd ps sp := by
  obtain ⟨oc, od, kV, doc, pm, an, cdv, ct, osl, rfl, lk, hcd⟩ := F.ex
  exact fn_of lk hcd S len fun A outer s H vs Q E hr hsp => hbody cdv A outer s H vs Q E hr hsp
end
/-! ### an own class under ValueError -/
abbrev bmV : List Value := [.type "ValueError", .type "Exception", .type "BaseException", .type "object"]
structure Exc (K : PySem.W.Frag) (mg : Str → Option Value) (x : Str) (C : Addr) : Prop where
  m : mg x = some (.ref C)
  q : PySem.W.excIn K C bmV "ValueError.__new__" = true
theorem exc_obj {K : PySem.W.Frag} {h : Heap} {C : Addr} (X : K.In h) (q : PySem.W.excIn K C bmV "ValueError.__new__" = true) :
    ∃ bm N nm qn bs hdct sn sub ab col dd k0 k1 k2 k3 k5 mN, h.get? C = some (excClassObj nm qn C N bs bm hdct sn sub ab col dd k0 k1 k2 k3 k5 "ValueError.__new__") ∧ h.Ns N mN ∧ mN "__init__" = none ∧ OwnTail h bmV bm := by
  unfold PySem.W.excIn at q
  split at q
  · rename_i dd cd sl ho
    split at q
    · rename_i C' bm k0 k1 k2 k3 n k5 hm hs
      simp only [Bool.and_eq_true, beq_iff_eq, Bool.not_eq_true'] at q
      obtain ⟨⟨⟨⟨⟨rfl, rfl⟩, hdel⟩, ht⟩, hok⟩, hni⟩ := q
      obtain ⟨nm, bs, mro, ns, qn, hd, sn, sub, ab, col, del⟩ := cd
      dsimp only at hm hdel hok hni
      subst hm hdel
      have hsl : sl = #[k0, k1, k2, k3, some (.builtin "ValueError.__new__"), k5] := by
        obtain ⟨l⟩ := sl
        simp only at hs
        rw [hs]
      subst hsl
      exact ⟨bm, ns, nm, qn, bs, hd, sn, sub, ab, col, dd, k0, k1, k2, k3, k5, _, X _ _ ho, .of_isNs (PySem.W.isNs_of_in X hok), PySem.W.nsMap_none_of_in X hok hni, PySem.W.tail_of_in X ht⟩
    · cases q
  · cases q
section
variable {P : Program} {w : World} {K : PySem.W.Frag} {mg : Str → Option Value} {base : Heap} {N : List Str} {qual : Str} {scope : Scope} {f : Addr} {cd : Value} {A : Around} {outer : List Env} {s0 : Shared} {H0 : Hp} {E : XK}
/-- raise C(a) -/
def tRaise (C : Addr) (E : XK) (ta : TA) : TS := fun _ σ H => ta σ H fun vs H1 => vs.length ≤ sizeLine ∧ E (.ref C) none H1
theorem ps_raise {x : Str} {C : Addr} {a : Expr} {ta : TA} {np cpos pos : Pos} (e : Exc K mg x C) (hg : Gl (X1 P w K mg base N qual scope f cd A outer s0 H0 E) x) (ha : PA (X1 P w K mg base N qual scope f cd A outer s0 H0 E) [a] ta)
    (hdb : (x == ("__debug__" : Str)) = false := by decide)
    (he : starEach [a] (X1 P w K mg base N qual scope f cd A outer s0 H0 E).env = [(false, eval a (X1 P w K mg base N qual scope f cd A outer s0 H0 E).env)] := by rfl) :
    PS (X1 P w K mg base N qual scope f cd A outer s0 H0 E) (.Raise (some (.Call (.Name x np) [a] [] cpos)) none pos) (tRaise C E ta) := by
  intro pins s σ H D I h
  obtain ⟨bm, N', nm, qn, bs, hdct, sn, sub, ab, col, dd, k0, k1, k2, k3, k5, mN, hC, hN, hni, T⟩ := exc_obj I.mod.kin e.q
  refine wpAny_Raise_call_subU (C := C) (nm := nm) (q := qn) (N := N') (bs := bs) (bm := bm) (hdct := hdct) (sn := sn) (sub := sub) (ab := ab) (col := col) (dd := dd) (k0 := k0) (k1 := k1) (k2 := k2) (k3 := k3) (k5 := k5)
    PySem.F.excBase_ValueError PySem.F.excBase_ValueError.hasB PySem.F.excBase_ValueError (mN := mN) (T.hasType PySem.F.excBase_ValueError.hasBase) (I.ok.hd rfl) (by rw [he]; rfl) hni (ld_glob I hg e.m ⟨rfl, ?_⟩ hdb)
  have h2 := ha cpos pins s σ H _ I h
  rw [he] at h2 ⊢
  refine Calls.evalArgs_plain (thn h2 fun us s2 ⟨vs, H2, I2, r2, q1, q2⟩ => ⟨rfl, ?_, I2.bk _ _ hC, hN.keeps I2.bk, T.keeps I2.bk, fun h' ea m => raised I2 m q2⟩)
  rw [← r2.length]
  exact q1
end
/-! ### isinstance(e, C) of an exception -/
/-- an exception of the class at C -/
def excO (ea C : Addr) : HO := .ext fun h => ∃ o vs, h.get? ea = some o ∧ o.cls = .ref C ∧ o.data = .fields vs
/-- what of the text an own exception class has, as far as an instance is asked for its class -/
structure ExcK (K : PySem.W.Frag) (C : Addr) : Prop where
  dct : PySem.W.hasDictIn K C = true
  ga : PySem.W.findIn K (.ref C) "__getattribute__" = some (some (.builtin "BaseException.__getattribute__"))
  nga : PySem.W.findIn K (.ref C) "__getattr__" = some none
  cl : PySem.W.findIn K (.ref C) "__class__" = some (some (.builtin "object.__class__"))
  gt : PySem.W.specialIn K (.builtin "object.__class__") "__get__" = some (some (.builtin "getset_descriptor.__get__"))
  tk : PySem.W.takesIn K (.builtin "object.__class__") = some true
  mo : PySem.W.mroIn K C (.type "object") = some true
  mb : PySem.W.mroIn K C (.type "BaseException") = some true
/-! ### try: f(..) except C as e: .. -/
def Cx.suite (X : Cx) (ea : Addr) : Cx := { X with A := X.A.mark (some (.ref ea)), calm := false, xe := fun _ _ => False }
section
variable {X : Cx} {pins : List (Addr × Obj)} {σ : St} {H : Hp} {s : Shared} {ea : Addr}
theorem Cx.Ok.suite (ok : X.Ok) : (X.suite ea).Ok :=
  ⟨ok.mod, ok.kind, ok.glob, ok.blt, ok.above, ok.inj, ok.has, ok.cab, fun z => absurd z Bool.false_ne_true, ok.frames, ok.stk, ok.exf, ok.bs, ok.bsz, ok.noex, ok.exfs, ok.funs, ok.frf⟩
theorem Inv.suite (I : Inv X pins σ H s) : Inv (X.suite ea) pins σ H s := ⟨I.ok.suite, I.os, I.bare, I.base, I.loc, I.cell, I.free, I.freeC, I.pin, I.hok, I.len⟩
theorem Inv.unsuite (ok : X.Ok) (I : Inv (X.suite ea) pins σ H s) : Inv X pins σ H s := ⟨ok, I.os, I.bare, I.base, I.loc, I.cell, I.free, I.freeC, I.pin, I.hok, I.len⟩
/-- the name goes -/
theorem name_goes {M : Model} {A : Around} {E : Value → Shared → Prop} {i : Nat} {n : Str} {pos : Pos} {Q : Unit → Shared → Prop} (I : Inv X pins σ H s) (hN : X.N.Nodup) (hi : X.N[i]? = some n) (hl : X.env.scope.names.lookup n = some .local)
    (h : ∀ s', Inv X pins (σ.set i none) H s' → Q () s') : wpAny M A (do bindName X.env n .none; unbindBehindTheSuite X.env n pos) Q E s := by
  obtain ⟨m, hn, hloc⟩ := id I.loc
  have hcls : (X.env.scope.kind == .class || (X.env.scope.kind == .module && X.env.locals != X.env.globals)) = false := by rw [I.ok.kind]; rfl
  have hiσ : i < σ.length := by rw [I.len]; exact (List.getElem?_eq_some_iff.mp hi).1
  have cne := I.cne
  obtain ⟨oL, _, _, hoL, _⟩ := id hn
  refine wpAny_nameGoes_keeps hl hn hcls fun h' v hn' hs => ?_
  have old : ∀ b o, X.s₀.heap.get? b = some o → b ≠ X.env.locals := fun b o e => Nat.ne_of_lt (Nat.lt_of_lt_of_le (Heap.lt_size e) I.ok.above)
  refine h _ ⟨I.ok, I.os, I.bare, ⟨fun b o e n' hb hx => ?_, fun b o e n' hb hx => ?_, I.base.free, fun b o e hx => ?_, I.base.tups, I.base.frzs, I.base.tbls⟩, ⟨_, hn', fun j y v' e1 e2 e3 => ?_⟩, fun y c e => ?_, I.free, I.freeC, fun p hp => ?_, fun b ob e => ?_, by simpa using I.len⟩
  · exact (hs.2 b (old b o e)).trans (I.base.keep b o e n' hb hx)
  · obtain ⟨sl, e1⟩ := I.base.slot b o e n' hb hx
    exact ⟨sl, (hs.2 b (old b o e)).trans e1⟩
  · obtain ⟨o', e1⟩ := I.base.there b o e hx
    exact ⟨o', (hs.2 b (old b o e)).trans e1⟩
  · by_cases hj : j = i
    · subst hj
      rw [List.getElem?_set_self hiσ] at e2
      cases e2
    · rw [List.getElem?_set_ne (Ne.symm hj)] at e2
      obtain ⟨u', r', q⟩ := hloc j y v' e1 e2 e3
      refine ⟨u', r', ?_⟩
      rcases q with ⟨k, e⟩ | ⟨k, c, e, z⟩
      · refine .inl ⟨k, ?_⟩
        have : y ≠ n := fun e => hj (nodup_ix hN e1 (e ▸ hi))
        simp [this, e]
      · exact .inr ⟨k, c, e, z.sameBut hs (cne y c e)⟩
  · obtain ⟨w', z⟩ := I.cell y c e
    exact ⟨w', z.sameBut hs (cne y c e)⟩
  · obtain ⟨e, n', ne, nf, d⟩ := I.pin p hp
    exact ⟨(hs.2 p.1 ne).trans e, n', ne, nf, d⟩
  · refine (I.hok b ob e).stay (fun c w' hc q => (hs.2 c ?_).trans q) (fun _ q => q) fun _ _ q => q
    intro z
    rcases hc with hc | hc
    · rw [← hc, z, I.free] at e
      cases e
    · rw [z, I.free] at hc
      cases hc
/-- an exception has come to this frame; it is tracked from now on -/
theorem landed {C t : Addr} {B : Heap} {H' : Hp} {s' : Shared} {h6 : Heap} (I : Inv X pins σ H s) (os : s'.os = s.os) (bare : AllBare s'.gens) (un : Un (frs X.stack) [] H H' s.heap s'.heap) (hok : HOk X.prog X.w H' s'.heap)
    (fl : Heap.FlyingW B X.stack ea (.ref C) (.ref t) s'.heap) (cov : Cov B (frs X.stack) H H' s.heap) (fl6 : Heap.FlyingW B X.stack ea (.ref C) (.ref t) h6) (up : s'.heap.UpToSlots h6) :
    H' ea = none ∧ Inv X pins σ (upd H' ea (excO ea C)) { s' with heap := h6 } := by
  have nea : H' ea = none := by
    cases q : H' ea with
    | none => rfl
    | some u =>
      obtain ⟨o, e⟩ := cov.trk ea u q
      rw [fl.2.1] at e
      cases e
  obtain ⟨oe, vs, hoe, hoc, hod, _⟩ := fl6.first
  have fresh : s.heap.get? ea = none := by
    cases q : s.heap.get? ea with
    | none => rfl
    | some o =>
      by_cases hb : ea ∈ frs X.stack
      · obtain ⟨_, o', ho', nf⟩ := fl6.2.2.1.mem hb
        rw [hoe] at ho'
        cases ho'
        exact absurd hod (nf vs)
      · obtain ⟨o', e, _⟩ := cov.old ea o q hb
        rw [fl.2.1] at e
        cases e
  have fr : ∀ b o, s'.heap.get? b = some o → b ∈ frs X.stack → ∃ sl, h6.get? b = some { o with slots := sl } := fun b o e hb => by
    obtain ⟨_, o', ho', nf⟩ := fl.2.2.1.mem hb
    rw [e] at ho'
    cases ho'
    exact up b o e nf
  have ne : ∀ b u, H' b = some u → b ≠ ea := fun b u e => ne_of_none e nea
  refine ⟨nea, I.call' (ch := []) os ⟨fun b o e n hb hx => ?_, fun b o e n hb hx => ?_, fun b o e n hx => ?_, fun b o e hx => ?_, fun b xs e => ?_, fun b o u e => ?_, fun b ps e => ?_⟩ (fun b u e => ?_) bare fun b z => absurd z (by simp)⟩
  · obtain ⟨o', e2, z⟩ := cov.old b o e hb
    rw [z n] at e2
    exact fl6.1 b o e2
  · obtain ⟨sl, e1⟩ := un.slot b o e n hb hx
    obtain ⟨sl2, e2⟩ := fr b _ e1 hb
    exact ⟨sl2, e2⟩
  · have : b ≠ ea := fun z => by rw [z, fresh] at e; cases e
    rw [upd_ne this]
    exact un.free b o e n hx
  · by_cases hb : b ∈ frs X.stack
    · obtain ⟨o1, e1⟩ := un.there b o e hx
      obtain ⟨sl, e2⟩ := fr b _ e1 hb
      exact ⟨_, e2⟩
    · obtain ⟨o', e2, _⟩ := cov.old b o e hb
      exact ⟨o', fl6.1 b o' e2⟩
  · have q := un.tups b xs e
    rw [upd_ne (ne b _ q)]
    exact q
  · have q := un.frzs b o u e
    rw [upd_ne (ne b _ q)]
    exact q
  · obtain ⟨more, q⟩ := un.tbls b ps e
    exact ⟨more, by rw [upd_ne (ne b _ q)]; exact q⟩
  · by_cases hb : b = ea
    · subst hb
      rw [upd_same] at e
      cases e
      refine ⟨⟨oe, vs, hoe, hoc, hod⟩, ⟨oe, hoe⟩, fun h1 h2 p k => ?_⟩
      obtain ⟨o, ws, e1, e2, e3⟩ := p
      exact ⟨o, ws, k o e1, e2, e3⟩
    · rw [upd_ne hb] at e
      refine (hok b u e).stay (fun c o hc e1 => ?_) (fun c r => by rw [upd_ne (ne c _ r)]; exact r) fun c xs r => by rw [upd_ne (ne c _ r)]; exact r
      have ht : ∃ o, B.get? c = some o := by
        rcases hc with rfl | hc
        · exact cov.trk _ _ e
        · exact cov.trk _ _ hc
      obtain ⟨o1, e2⟩ := ht
      have := fl.1 c o1 e2
      rw [e1] at this
      cases this
      exact fl6.1 c o e2
end
/-! ### isinstance of an exception -/
section
variable {K : PySem.W.Frag} {x C : Addr}
def ExcAt (x C : Addr) (h : Heap) : Prop := ∃ o vs, h.get? x = some o ∧ o.cls = .ref C ∧ o.data = .fields vs
theorem exc_ty {M : Model} {h : Heap} (p : ExcAt x C h) : PySem.W.Looks M h (typeOf (.ref x)) (.ref C) := by
  obtain ⟨o, vs, h1, h2, _⟩ := p
  exact h2 ▸ (PySem.W.Looks.ld h1).andThen .now
end
end L2
namespace L2
open PySem PySem.Spec PyProof.Rows PySem.W Builtin Builtin.ObjectAttr Builtin.Getset_descriptor
section
variable {K : PySem.W.Frag} {x C : Addr}
theorem exc_find {M : Model} {h : Heap} (X : K.In h) (k : ExcK K C) : Looks M h (find (.ref x) (.ref C) "__class__") (.bind (.builtin "getset_descriptor.__get__") (.builtin "object.__class__")) := by
  refine (looks_findIn X k.cl).andThen ?_
  refine Looks.andThen (show Looks M h (getOf (some (.builtin "object.__class__"))) (some (.builtin "getset_descriptor.__get__")) from looks_specialIn X k.gt) ?_
  exact (show Looks M h (dataDescriptor? (some (.builtin "object.__class__")) (some (.builtin "getset_descriptor.__get__"))) (some (.builtin "getset_descriptor.__get__", .builtin "object.__class__")) from (looks_takesIn X k.tk).andThen .now).andThen (Looks.tag .now)
variable {prog : Program} {w : World} {A : Around} {E : Value → Shared → Prop} {s : Shared} {R : Result → Shared → Prop}
theorem exc_cget {tp : Value} (X : K.In s.heap) (p : ExcAt x C s.heap) (k : ExcK K C) (h : R (.ok (.ret (.ref C))) s) :
    codeAny (model prog w) A (.call (.builtin "getset_descriptor.__get__") ⟨[.builtin "object.__class__", .ref x, tp], []⟩) R s := by
  obtain ⟨hh, g, dr, t, os⟩ := s
  have L0 := exc_ty (M := model prog w) p
  have L1 := looks_mroIn (M := model prog w) X k.mo
  refine codeAny_call_builtin KF.slot_gs.plain KF.entry_gs (KF.slot_gs.check _ _ _ _ _ _ _ _ KF.type_class (KF.args_gs _ _ _) ?_)
  unfold Builtin.«getset_descriptor.__get__» Builtin.Getset_descriptor.descrGet
  rw [dga_obj]
  refine wpAny_bind (wpAny_pure ?_)
  unfold descrGetter descrCheckInstance descrNameAndClass isInstance
  simp only [KF.owner_class]
  repeat lk
  refine ⟨Code.quiet_builtin _ (by decide +kernel), codeAny_builtin KF.entry_class ?_⟩
  unfold Builtin.«object.__class__» shownTypeOf
  repeat lk
  exact h
theorem exc_ga {tk : Tok} (X : K.In s.heap) (p : ExcAt x C s.heap) (k : ExcK K C) (h : R (.ok (.ret (.ref C))) s) :
    codeAny (model prog w) A (.call (.builtin "BaseException.__getattribute__") ⟨[.ref x, .str "__class__" tk], []⟩) R s := by
  obtain ⟨hh, g, dr, t, os⟩ := s
  have L0 := exc_ty (M := model prog w) p
  have L1 := looks_mroIn (M := model prog w) X k.mb
  have LI : Looks (model prog w) hh (isInstance (.ref x) (.type "BaseException")) true := L0.andThen L1
  have LF := exc_find (M := model prog w) (x := x) X k
  refine codeAny_call_builtin (by decide +kernel) PySem.F.entry_bexc_ga ?_
  have hk : builtinKind "BaseException.__getattribute__" = some .slot := by decide +kernel
  have hsplit : splitId "BaseException.__getattribute__" = some ("BaseException", "__getattribute__") := by decide +kernel
  have ha := PySem.F.args_bexc_ga (.ref x) (.str "__class__" tk)
  simp only [checkBuiltinCall, hk, hsplit]
  refine wpAny_bind (LI.at ?_)
  rw [if_neg (by decide)]
  have go : wpAny (model prog w) A.in1 («object.__getattribute__» ⟨[.ref x, .str "__class__" tk], []⟩) (fun fin s' => match fin with | .done f => R (.ok f) s' | .again c' => c'.quiet = true ∧ codeAny (model prog w) A c' R s') (fun e s' => R (.error e) s') ⟨hh, g, dr, t, os⟩ := by
    refine wpAny_bind (wpAny_pure (wpAny_bind (wpAny_pure (wpAny_bind (L0.at (wpAny_bind (LF.at ?_)))))))
    show wpAny _ _ (call (.builtin "getset_descriptor.__get__") [.builtin "object.__class__", .ref x, .ref C] >>= ret) _ _ _
    exact wpAny_bind (wpAny_call (exc_cget X p k (wpAny_pure h)))
  cases hsig : Manifest.signature? "BaseException.__getattribute__" with
  | none => exact wpAny_pure go
  | some sig =>
    have ha' : Bind.checkArgs "BaseException.__getattribute__" sig ⟨[.ref x, .str "__class__" tk], []⟩ = pure () := by simpa only [argsOk, hsig] using ha
    simp only [ha']
    exact wpAny_pure go
theorem exc_class {Q : Option Value → Shared → Prop} (X : K.In s.heap) (p : ExcAt x C s.heap) (k : ExcK K C) (h : Q (some (.ref C)) { s with toks := s.toks + 1 }) : wpAny (model prog w) A (getAttr? (.ref x) "__class__") Q E s := by
  obtain ⟨hh, g, dr, t, os⟩ := s
  have L0 := exc_ty (M := model prog w) p
  have L1 := looks_findIn (M := model prog w) X k.ga
  have L2 := looks_findIn (M := model prog w) X k.nga
  have f3 := PySem.F.attrBase_ValueError.ga.bind (.ref x)
  unfold getAttr? getAttrBy? getAttrBy
  refine wpAny_bind (wpAny_mkText (wpAny_bind (wpAny_attempt (wpAny_holding (wpAny_bind (L0.at (wpAny_bind (L1.at ?_))))))))
  show wpAny _ _ (getAttrByItsOwn _ _ _ _ _ _) _ _ _
  unfold getAttrByItsOwn
  refine wpAny_bind (L2.at (wpAny_bind (wpAny_attempt (wpAny_holding ?_))))
  show wpAny _ _ (boundAndCalled _ _ _) _ _ _
  unfold boundAndCalled
  exact wpAny_bind (wpAny_of_eq f3 (wpAny_call (exc_ga (s := ⟨hh, g, dr, t + 1, os⟩) X p k (wpAny_pure (wpAny_pure h)))))
theorem kitx_exc (k : ExcK K C) : KitX K (.ref x) (.ref C) (ExcAt x C) where
  ty := fun _ _ _ p => exc_ty p
  it := fun _ _ X _ => by
    obtain ⟨cdD, hcD, _⟩ := any_some k.dct
    unfold clsIn at hcD
    split at hcD
    · rename_i c' d' cd' sl' ho
      intro A' Q' E' s' kk q
      unfold isType loadHead
      exact wpAny_bind (wpAny_loadPart (kk _ _ (X _ _ ho)) (wpAny_pure q))
    · cases hcD
  ne := fun h tp dd its n sl X htp => by
    obtain ⟨cdD, hcD, _⟩ := any_some k.dct
    refine Bool.eq_false_iff.mpr fun q => ?_
    have e : C = tp := Value.ref.inj (beq_iff_eq.mp q)
    subst e
    unfold clsIn at hcD
    split at hcD
    · rename_i c' d' cd' sl' ho
      have z := (X _ _ ho).symm.trans htp
      cases z
    · cases hcD
  ca := fun X p h => exc_class X p k h
end
section
variable {X : Cx}
theorem exc_at {pins : List (Addr × Obj)} {σ : St} {H : Hp} {s : Shared} {ea C : Addr} (I : Inv X pins σ H s) (h : H ea = some (excO ea C)) : ExcAt ea C s.heap := (I.hok ea _ h).1
abbrev rIsx (K : PySem.W.Frag) (xs : List V) (H : Hp) (Q : VK) : Prop := ∃ (ea C : Addr) (d : V) (c : Value) (b : Bool), xs = [.ref ea, d] ∧ ((∃ D, d = .ref D ∧ c = .ref D) ∨ ∃ T, d = .ty T ∧ c = .type T) ∧ H ea = some (excO ea C) ∧ ExcK K C ∧ kitOne K (.ref C) c = some b ∧ Q (.bl b) H
theorem call_isx : CallR X (.builtin "isinstance") (rIsx X.K) := by
  intro pins s σ H xs us Q I r h
  obtain ⟨ea, C, d, c, b, rfl, hd, he, k, e, q⟩ := h
  obtain ⟨u, v, rfl, ru, rv⟩ := vals2 r
  cases (show u = Value.ref ea from ru)
  have ev : v = c := by
    rcases hd with ⟨D, rfl, rfl⟩ | ⟨T, rfl, rfl⟩
    · exact rv
    · exact rv
  subst ev
  exact kia_one (kitx_exc k) I.kIn (exc_at I he) e (fun z => nomatch z) fun tk => ⟨.bl b, H, I.tok tk, rfl, q⟩
end
theorem passN {P : Program} {w : World} {X : Cx} : Passes (CX1 P w) X (fun _ _ _ => False) := fun _ _ _ _ _ _ _ h => by
  obtain ⟨_, _, _, _, _, _, _, _, _, _, _, _, z⟩ := h
  exact z.elim
end L2

set_option Elab.async false
set_option linter.all false
set_option maxRecDepth 100000
set_option maxHeartbeats 4000000
namespace L2
open PySem PySem.Spec PyProof.Rows PySem.W
/-! ### xs[::-1] -/
def tRev3 (K : PySem.W.Frag) (te tk : TE) : TE := fun σ H Q => te σ H fun x H1 => tk σ H1 fun y H2 => y = .int (-1) ∧ ∃ a xs, x = .ref a ∧ SqL K H2 a xs ∧ ∀ p, H2 p = none → Q (.ref p) (upd H2 p (.lst xs.reverse))
theorem pe_rev3 {X : Cx} {e k : Expr} {te tk : TE} {p2 pos : Pos} (he : PE X e te) (hk : PE X k tk) : PE X (.Subscript e (.Slice none none (some k) p2) pos) (tRev3 X.K te tk) := by
  intro pins s σ H Q I h
  refine Subscript_ (thn (he pins s σ H _ I h) fun v s1 ⟨x, H1, I1, r1, q1⟩ => ?_)
  refine wpAny_Slice ?_
  rw [evalPart_none]
  refine wpAny_pure ?_
  refine wpAny_pure ?_
  rw [evalPart_some]
  refine thn (hk pins s1 σ H1 _ I1 q1) fun vk s3 ⟨y, H3, I3, ry, q3⟩ => ?_
  obtain ⟨rfl, a, xs, rfl, hx, q⟩ := q3
  obtain ⟨tk0, rfl⟩ := ry
  cases r1
  have I4 : Inv X pins σ H3 { s3 with heap := s3.heap.push { cls := .type "slice", data := .fields #[.none, .none, .int (-1) tk0] } } := I3.kept (t' := s3.toks) fun b ob q => Heap.get?_push_of_some _ q
  obtain ⟨its, r, ht, hz⟩ := I4.list hx
  have hlen := r.length
  show wpAny (model X.prog X.w) X.A (subscriptTail e (.Slice none none (some k) p2) (.ref a) (.ref s3.heap.objs.size)) (EP X pins σ Q) X.xe { s3 with heap := s3.heap.push { cls := .type "slice", data := .fields #[.none, .none, .int (-1) tk0] } }
  refine tail_any (ops := [.ref a, .ref s3.heap.objs.size]) ht.isList.typeIs slot_list_getitem.lookup ?_ (by with_unfolding_all rfl)
  refine wpAny_getItem_list_slice ht.isList (Heap.IsSliceOf.new ..) .none .none (.int (-1) tk0) (by decide) ?_ (by rw [List.size_toArray]; omega)
  rw [krv_pick]
  refine ⟨.ref _, _, I4.laid (t' := s3.toks) (o := .lst xs.reverse) (fun b ob q => Heap.get?_push_of_some _ q) (Nat.le_refl _) ?_, rfl, q _ (I4.hok.fresh (Nat.le_refl _))⟩
  refine ⟨by rw [List.length_reverse]; exact hz, its.reverse, 0, r.reverse, ?_⟩
  exact Heap.get?_push_size _ rfl

/-! ### try: any suite, except C1 [as n]: .. except C2 [as n]: .. -/
/-- within the suite of a try: the pins lie in the context, what flies out is told -/
def Cx.tr (X : Cx) (pins : List (Addr × Obj)) (E : XK) : Cx := { X with pn := X.pn ++ pins, xe := fun e s' => ∃ σ H s, Inv X pins σ H s ∧ CX1 X.prog X.w X.stack H s E e s' }
section
variable {X : Cx} {pins pins' : List (Addr × Obj)} {E : XK} {σ : St} {H : Hp} {s : Shared}
theorem Cx.Ok.tr (ok : X.Ok) : (X.tr pins E).Ok :=
  ⟨ok.mod, ok.kind, ok.glob, ok.blt, ok.above, ok.inj, ok.has, ok.cab, ok.hd, ok.frames, ok.stk, ok.exf, ok.bs, ok.bsz, ok.noex, ok.exfs, ok.funs, ok.frf⟩
theorem Cx.Ok.untr (ok : (X.tr pins E).Ok) : X.Ok :=
  ⟨ok.mod, ok.kind, ok.glob, ok.blt, ok.above, ok.inj, ok.has, ok.cab, ok.hd, ok.frames, ok.stk, ok.exf, ok.bs, ok.bsz, ok.noex, ok.exfs, ok.funs, ok.frf⟩
theorem Inv.tr (I : Inv X pins σ H s) : Inv (X.tr pins E) [] σ H s :=
  ⟨I.ok.tr, I.os, I.bare, I.base, I.loc, I.cell, I.free, I.freeC, fun p hp => I.pin p (by
    have hp' : p ∈ (X.pn ++ pins) ++ [] := hp
    rwa [List.append_nil] at hp'), I.hok, I.len⟩
theorem Inv.untr (I : Inv (X.tr pins E) pins' σ H s) : Inv X pins σ H s :=
  ⟨I.ok.untr, I.os, I.bare, I.base, I.loc, I.cell, I.free, I.freeC, fun p hp => I.pin p (List.mem_append_left _ hp), I.hok, I.len⟩
theorem passT : Passes (CX1 X.prog X.w) (X.tr pins E) E := fun _ σ H s _ _ I h => ⟨σ, H, s, I.untr, h⟩
theorem SP.untr {D : Ends} {f : Flow} {s' : Shared} (h : SP (X.tr pins E) [] D f s') : SP X pins D f s' := by
  cases f with
  | next => obtain ⟨σ, H, I, q⟩ := h; exact ⟨σ, H, I.untr, q⟩
  | ret v => obtain ⟨x, σ, H, I, r, q⟩ := h; exact ⟨x, σ, H, I.untr, r, q⟩
  | brk => obtain ⟨σ, H, I, q⟩ := h; exact ⟨σ, H, I.untr, q⟩
  | cont => obtain ⟨σ, H, I, q⟩ := h; exact ⟨σ, H, I.untr, q⟩
end
/-- handlers, one behind the other: C is the class that came -/
abbrev TH := Addr → Ends → St → Hp → Prop
def PH (X : Cx) (hs : List ExceptHandler) (th : TH) : Prop := ∀ (pins : List (Addr × Obj)) (ea C t : Addr) (B : Heap) (H' : Hp) (s' : Shared) (σ : St) (D : Ends) (h5 : Heap),
  (∀ h6, Heap.FlyingW B X.stack ea (.ref C) (.ref t) h6 → s'.heap.UpToSlots h6 → Inv X pins σ (upd H' ea (excO ea C)) { s' with heap := h6 }) →
  Heap.FlyingW B X.stack ea (.ref C) (.ref t) h5 → s'.heap.UpToSlots h5 → H' ea = none → th C D σ H' →
  wpAny (model X.prog X.w) X.A (handleBy (.ref ea) X.env hs) (SP X pins D) X.xe { s' with heap := h5 }
def hNil : TH := fun _ _ _ _ => False
theorem ph_nil {X : Cx} : PH X [] hNil := fun _ _ _ _ _ _ _ _ _ _ _ _ _ _ z => z.elim
/-- does the class match -/
theorem exm_ok {X : Cx} {Cw ea C t : Addr} {B : Heap} {h5 : Heap} {s' : Shared} {cx : Str} {b : Bool} {pins : List (Addr × Obj)} {σ : St} {H : Hp} (ex : Exc X.K X.mg cx Cw) (exk : ExcK X.K Cw) (I5 : Inv X pins σ H { s' with heap := h5 })
    (fl5 : Heap.FlyingW B X.stack ea (.ref C) (.ref t) h5) (hsub : kitOne X.K (.ref C) (.ref Cw) = some b) {M : Model} {A : Around} {Q : Bool → Shared → Prop} {E : Value → Shared → Prop} (qq : Q b { s' with heap := h5 }) :
    wpAny M A (excMatches (.ref ea) (.ref Cw)) Q E { s' with heap := h5 } := by
  obtain ⟨oe, vs5, hoe, hoc, hod, _⟩ := fl5.first
  by_cases eC : C = Cw
  · subst eC
    have hb : b = true := by
      unfold kitOne at hsub
      rw [if_pos (by simp)] at hsub
      exact (Option.some.inj hsub).symm
    subst hb
    obtain ⟨bm, N', nm, qn, bs, hdct, sn, sub, ab, col, dd, k0, k1, k2, k3, k5, mN, hC, hN', hni, T⟩ := exc_obj I5.kIn ex.q
    exact wpAny_excMatches_sub_self hC hoe hoc (T.hasType PySem.F.excBase_ValueError.hasBase) qq
  · have hx : exmOne X.K (.ref C) (.ref Cw) = some b := by
      unfold exmOne
      rw [if_pos (beq_iff_eq.mpr (show subIn X.K (.ref Cw) (.type "BaseException") = some true from exk.mb))]
      unfold kitOne at hsub
      rw [if_neg (by simpa using eC)] at hsub
      exact hsub
    exact (exm_one (M := M) I5.kIn (exc_ty ⟨oe, vs5, hoe, hoc, hod⟩) hx).at qq
/-- except Cw as n: suite -/
def hAs (K : PySem.W.Frag) (i : Nat) (Cw : Addr) (ts : TS) (th : TH) : TH := fun C D σ H => ∃ b, kitOne K (.ref C) (.ref Cw) = some b ∧ if b = true then (∀ ea, H ea = none →
  ts { nx := fun σ3 H3 => D.nx (σ3.set i none) H3, rt := fun _ _ => False } (σ.set i (some (.ref ea))) (upd H ea (excO ea C))) else th C D σ H
theorem ph_as {X : Cx} {Cw : Addr} {cx n : Str} {np hpos : Pos} {i : Nat} {b0 : Stmt} {suite : List Stmt} {ts : TS} {rest : List ExceptHandler} {th : TH}
    (ex : Exc X.K X.mg cx Cw) (exk : ExcK X.K Cw) (hgc : Gl X cx) (hN : X.N.Nodup) (hi : X.N[i]? = some n) (hn : X.env.scope.names.lookup n = some .local)
    (hs : ∀ ea, PSs (X.suite ea) (b0 :: suite) ts) (hr : PH X rest th) (hdc : (cx == ("__debug__" : Str)) = false := by decide) :
    PH X (.ExceptHandler (some (.Name cx np)) (some n) (b0 :: suite) hpos :: rest) (hAs X.K i Cw ts th) := by
  intro pins ea C t B H' s' σ D h5 L fl5 up5 nea q
  obtain ⟨b, hsub, q⟩ := q
  have I5 := L h5 fl5 up5
  refine wpAny_handleBy_cons (codeAny_handlers_test (ld_glob (X := X.suite ea) I5.suite hgc ex.m ?_ hdc)) (by intro z; cases z)
  refine exm_ok ex exk I5 fl5 hsub ?_
  cases b with
  | false =>
    rw [if_neg Bool.false_ne_true] at q
    exact hr pins ea C t B H' s' σ D h5 L fl5 up5 nea q
  | true =>
    rw [if_pos rfl] at q
    refine codeAny_handlers_suite_as ?_
    refine lands_againW fl5 fun h6 fl6 up6 => ?_
    have I6 := L h6 fl6 (up5.trans up6)
    refine store_ok (X := X.suite ea) (v := .ref ea) I6.suite hN hi (.inl hn) rfl (fun s7 I7 => ?_) (.inr hn)
    refine wpAny_mono (hs ea pins s7 _ _ _ I7 (q ea nea)) (fun fw s8 q8 => ?_) fun _ _ z => False.elim z
    cases fw with
    | next =>
      obtain ⟨σ8, H8, I8, n8⟩ := q8
      exact name_goes (I8.unsuite I5.ok) hN hi hn fun s9 I9 => ⟨_, H8, I9, n8⟩
    | ret v => obtain ⟨_, _, _, _, _, z⟩ := q8; exact False.elim z
    | brk => obtain ⟨_, _, _, z⟩ := q8; exact False.elim z
    | cont => obtain ⟨_, _, _, z⟩ := q8; exact False.elim z
def tTryG (tb : XK → TS) (th : TH) : TS := fun D σ H => tb (fun cv _ H2 => ∃ C, cv = .ref C ∧ ∀ σ' : St, σ'.length = σ.length → th C D σ' H2) D σ H
theorem ps_try {X : Cx} {body : List Stmt} {h0 : ExceptHandler} {hs : List ExceptHandler} {pos : Pos} {tb : XK → TS} {th : TH} (hst : X.stack = X.env :: X.outer) (hfr : X.env.frame = some X.env.locals)
    (hb : ∀ pins E, PSs (X.tr pins E) body (tb E)) (hh : PH X (h0 :: hs) th) : PS X (.Try body (h0 :: hs) [] [] pos) (tTryG tb th) := by
  intro pins s σ H D I h
  refine wpAny_Try_except ?_
  refine wpAny_mono (hb pins _ [] s σ H D I.tr h) (fun fw s1 q => ?_) fun e s1 q => ?_
  · have q' := q.untr
    cases fw with
    | next => exact wpAny_execs_nil q'
    | ret v => exact q'
    | brk => exact q'
    | cont => exact q'
  · obtain ⟨σ1, H1, s0, I1, ea, C', t', B, H', rfl, os, bare, un, hok, fl, cov, C, eC, q2⟩ := q
    cases eC
    have frm : X.A.frames = some (X.env :: X.outer) := by rw [← hst]; exact I.ok.frames
    refine wpAny_looks_onW (base := B) frm hfr (by rw [← hst]; exact fl) fun h4 held up4 => wpAny_landsW held fun h5 fl5 up5 => ?_
    have fl5' : Heap.FlyingW B X.stack ea (.ref C') (.ref t') h5 := by rw [hst]; exact fl5
    obtain ⟨nea, _⟩ := landed I1 os bare un hok fl cov fl5' (up4.trans up5)
    exact hh pins ea C' t' B H' s1 σ1 D h5 (fun h6 fl6 up6 => (landed I1 os bare un hok fl cov fl6 up6).2) fl5' (up4.trans up5) nea (q2 σ1 (by rw [I1.len, I.len]))
/-! ### a < b < c < d -/
end L2
namespace L2
open PySem PySem.Spec PyProof.Rows PySem.W
end L2

set_option Elab.async false
set_option linter.all false
set_option maxRecDepth 100000
set_option maxHeartbeats 4000000
namespace L2
open PySem PySem.Spec PyProof.Rows PySem.W
/-! ### inner defs: a function object of one's own, its code, its cells -/
/-- an object that is known to the last and never changes -/
def exactO (a : Addr) (o : Obj) : HO := .ext fun h => h.get? a = some o
theorem exact_ok {P : Program} {w : World} {H : Hp} {h : Heap} {a : Addr} {o : Obj} (e : h.get? a = some o) : ObjOk P w H h a (exactO a o) := ⟨e, ⟨o, e⟩, fun _ _ p k => k o p⟩
theorem exact_get {P : Program} {w : World} {H : Hp} {h : Heap} {a : Addr} {o : Obj} (hok : HOk P w H h) (e : H a = some (exactO a o)) : h.get? a = some o := (hok a _ e).1
def hide (H : Hp) (cs : List Addr) : Hp := fun b => if b ∈ cs then none else H b
def over (H : Hp) (cs : List Addr) (H' : Hp) : Hp := fun b => if b ∈ cs then H b else H' b
theorem hide_in {H : Hp} {cs : List Addr} {b : Addr} (h : b ∈ cs) : hide H cs b = none := if_pos h
theorem hide_out {H : Hp} {cs : List Addr} {b : Addr} (h : b ∉ cs) : hide H cs b = H b := if_neg h
theorem over_in {H H' : Hp} {cs : List Addr} {b : Addr} (h : b ∈ cs) : over H cs H' b = H b := if_pos h
theorem over_out {H H' : Hp} {cs : List Addr} {b : Addr} (h : b ∉ cs) : over H cs H' b = H' b := if_neg h
theorem over_hide (H : Hp) (cs : List Addr) : over H cs (hide H cs) = H := by
  funext b
  by_cases h : b ∈ cs
  · rw [over_in h]
  · rw [over_out h, hide_out h]
section
variable {P : Program} {w : World} {H H' : Hp} {h h' : Heap} {cs : List Addr}
theorem hide_ok (hok : HOk P w H h) (hx : ∀ a ∈ cs, ∃ o, H a = some (exactO a o)) : HOk P w (hide H cs) h := fun b u e => by
  have hb : b ∉ cs := fun z => by rw [hide_in z] at e; cases e
  rw [hide_out hb] at e
  refine (hok b u e).stay (fun _ _ _ q => q) (fun c q => ?_) fun c xs q => ?_
  · rw [hide_out]
    · exact q
    · intro z
      obtain ⟨o, e2⟩ := hx c z
      rw [q] at e2
      cases e2
  · rw [hide_out]
    · exact q
    · intro z
      obtain ⟨o, e2⟩ := hx c z
      rw [q] at e2
      cases e2
theorem over_ok {fs : List Addr} (hok : HOk P w H h) (hok' : HOk P w H' h') (hx : ∀ a ∈ cs, ∃ o, H a = some (exactO a o)) (hf : ∀ b ∈ fs, H b = none) (u : Un fs [] (hide H cs) H' h h') :
    HOk P w (over H cs H') h' ∧ Un fs [] H (over H cs H') h h' := by
  have get : ∀ a ∈ cs, ∃ o, H a = some (exactO a o) ∧ h.get? a = some o := fun a ha => by
    obtain ⟨o, e⟩ := hx a ha
    exact ⟨o, e, exact_get hok e⟩
  have gone : ∀ a ∈ cs, H' a = none := fun a ha => by
    obtain ⟨o, _, e⟩ := get a ha
    exact u.free a o e (hide_in ha) (by simp)
  have out : ∀ b, H b = none → b ∉ cs := fun b n z => by
    obtain ⟨o, e, _⟩ := get b z
    rw [n] at e
    cases e
  refine ⟨fun b v e => ?_, fun b o e n hb hx' => ?_, fun b o e n hb hx' => ?_, fun b o e n hx' => ?_, fun b o e hx' => u.there b o e hx', fun b xs e => ?_, fun b o v e => ?_, fun b ps e => ?_⟩
  · by_cases hb : b ∈ cs
    · obtain ⟨o, e1, e2⟩ := get b hb
      rw [over_in hb, e1] at e
      cases e
      exact exact_ok (u.keep b o e2 (hide_in hb) (fun z => by rw [hf b z] at e1; cases e1) (by simp))
    · rw [over_out hb] at e
      refine (hok' b v e).stay (fun _ _ _ q => q) (fun c q => ?_) fun c xs q => ?_
      · rw [over_out]
        · exact q
        · intro z
          rw [gone c z] at q
          cases q
      · rw [over_out]
        · exact q
        · intro z
          rw [gone c z] at q
          cases q
  · exact u.keep b o e (by rw [hide_out (out b n)]; exact n) hb hx'
  · exact u.slot b o e (by rw [hide_out (out b n)]; exact n) hb hx'
  · rw [over_out (out b n)]
    exact u.free b o e (by rw [hide_out (out b n)]; exact n) hx'
  · have hb : b ∉ cs := fun z => by
      obtain ⟨o, e1⟩ := hx b z
      rw [e] at e1
      cases e1
    rw [over_out hb]
    exact u.tups b xs (by rw [hide_out hb]; exact e)
  · have hb : b ∉ cs := fun z => by
      obtain ⟨o, e1⟩ := hx b z
      rw [e] at e1
      cases e1
    rw [over_out hb]
    exact u.frzs b o v (by rw [hide_out hb]; exact e)
  · have hb : b ∉ cs := fun z => by
      obtain ⟨o, e1⟩ := hx b z
      rw [e] at e1
      cases e1
    rw [over_out hb]
    exact u.tbls b ps (by rw [hide_out hb]; exact e)
end
/-- an inner def, as its text says -/
structure CloT where
  name : Str
  qual : Str
  params : Arguments
  body : List Stmt
  scope : Scope
  ps : List Str
  xs : List Str
/-- a function object of the inner def c at f, its cells at cs, holding fvs -/
structure CloAt (H : Hp) (f : Addr) (c : CloT) (cs : List Addr) (fvs : List V) : Prop where
  ex : ∃ (cd : Addr) (doc pm ctv : Value) (oc : Obj) (vs : Array Value) (t : Tok), H f = some (exactO f (fnMade c.name c.qual c.params c.body c.scope (c.xs.zip cs) doc pm cd ctv)) ∧ H cd = some (exactO cd oc) ∧ oc.data = .fields vs ∧ vs[1]? = some (.str c.qual t)
  cells : ∀ (i : Nat) (a : Addr), cs[i]? = some a → ∃ (co : Obj) (v : V) (u : Value), fvs[i]? = some v ∧ H a = some (exactO a co) ∧ co.data = .cell (some u) ∧ RelV v u
  nd : cs.Nodup
  len : cs.length = c.xs.length
  lenV : fvs.length = c.xs.length
theorem CloAt.same {H H' : Hp} {f : Addr} {c : CloT} {cs : List Addr} {fvs : List V} (h : CloAt H f c cs fvs) (s : ∀ b o, H b = some (exactO b o) → H' b = some (exactO b o)) : CloAt H' f c cs fvs := by
  obtain ⟨⟨cd, doc, pm, ctv, oc, vs, t, h1, h2, h3, h4⟩, hc, nd, len, lenV⟩ := h
  refine ⟨⟨cd, doc, pm, ctv, oc, vs, t, s _ _ h1, s _ _ h2, h3, h4⟩, fun i a e => ?_, nd, len, lenV⟩
  obtain ⟨co, v, u, e1, e2, e3⟩ := hc i a e
  exact ⟨co, v, u, e1, s _ _ e2, e3⟩
structure CloScope (N : List Str) (c : CloT) : Prop where
  kind : c.scope.kind = .function
  co : c.scope.isCoroutine = false
  gen : c.scope.isGenerator = false
  nocell : ∀ x ∈ c.scope.names, x.2 ≠ .cell
  pre : N.take (c.ps.length + c.xs.length) = c.ps ++ c.xs
  nd : N.Nodup
  par : ∀ n ∈ c.ps, c.scope.names.lookup n = some .local
  fr : ∀ x ∈ c.scope.names, x.2 = .free → x.1 ∈ c.xs
  frn : ∀ n ∈ c.xs, c.scope.names.lookup n ≠ some .local
def cxClo (P : Program) (w : World) (K : PySem.W.Frag) (mg : Str → Option Value) (base : Heap) (N : List Str) (qual : Str) (scope : Scope) (f : Addr) (cd : Value) (cl : List (Str × Addr)) (A : Around) (outer : List Env) (s : Shared) (H : Hp) : Cx where
  prog := P
  w := w
  K := K
  mg := mg
  base := base
  A := A.deeper (envX qual scope s.heap.objs.size f cd cl)
  N := N
  s₀ := s
  H₀ := H
  env := envX qual scope s.heap.objs.size f cd cl
  outer := outer
  stack := envX qual scope s.heap.objs.size f cd cl :: outer
  ex := []
  calm := true
  fn := fun _ => false
  pn := []
  xe := fun _ _ => False
theorem zip_lookup : ∀ {xs : List Str} {cs : List Addr} {x : Str} {c : Addr}, (xs.zip cs).lookup x = some c → ∃ i : Nat, xs[i]? = some x ∧ cs[i]? = some c
  | [], _, _, _, h => by simp at h
  | _ :: _, [], _, _, h => by simp at h
  | y :: xs, d :: cs, x, c, h => by
    rw [List.zip_cons_cons, List.lookup_cons] at h
    cases hb : x == y with
    | true =>
      rw [hb] at h
      cases h
      exact ⟨0, by rw [eq_of_beq hb]; rfl, rfl⟩
    | false =>
      rw [hb] at h
      obtain ⟨i, h1, h2⟩ := zip_lookup h
      exact ⟨i + 1, h1, h2⟩
theorem zip_has : ∀ {xs : List Str} {cs : List Addr} {x : Str}, cs.length = xs.length → x ∈ xs → ∃ c, (xs.zip cs).lookup x = some c
  | [], _, _, _, h => by simp at h
  | _ :: _, [], _, l, _ => by simp at l
  | y :: xs, d :: cs, x, l, h => by
    rw [List.zip_cons_cons, List.lookup_cons]
    cases hb : x == y with
    | true => exact ⟨d, rfl⟩
    | false =>
      rcases List.mem_cons.mp h with e | e
      · rw [e] at hb
        simp at hb
      · exact zip_has (by simpa using l) e
theorem zip_at : ∀ {xs : List Str} {cs : List Addr} {i : Nat} {x : Str} {c : Addr}, xs.Nodup → xs[i]? = some x → cs[i]? = some c → (xs.zip cs).lookup x = some c
  | [], _, _, _, _, _, h, _ => by simp at h
  | _ :: _, [], _, _, _, _, _, h => by simp at h
  | y :: xs, d :: cs, 0, x, c, _, h1, h2 => by
    simp at h1 h2
    subst h1 h2
    simp
  | y :: xs, d :: cs, i + 1, x, c, nd, h1, h2 => by
    have h1' : xs[i]? = some x := by simpa using h1
    have hne : (x == y) = false := by
      cases hb : x == y with
      | false => rfl
      | true =>
        rw [eq_of_beq hb] at h1'
        exact absurd (List.mem_of_getElem? h1') (List.nodup_cons.mp nd).1
    rw [List.zip_cons_cons, List.lookup_cons, hne]
    exact zip_at (List.nodup_cons.mp nd).2 h1' (by simpa using h2)
theorem lookup_mem : ∀ {l : List (Str × Value)} {y : Str} {u : Value}, (l.map (·.1)).Nodup → (y, u) ∈ l → l.lookup y = some u
  | [], _, _, _, h => by simp at h
  | (z, v) :: l, y, u, nd, h => by
    rw [List.map_cons] at nd
    rw [List.lookup_cons]
    rcases List.mem_cons.mp h with e | e
    · cases e
      simp
    · cases hb : y == z with
      | true =>
        rw [eq_of_beq hb] at e
        exact absurd (List.mem_map.mpr ⟨_, e, rfl⟩) (List.nodup_cons.mp nd).1
      | false => exact lookup_mem (List.nodup_cons.mp nd).2 e
theorem zip_fst_sub : ∀ (ps : List Str) (us : List Value), ((ps.zip us).map (·.1)).Sublist ps
  | [], _ => by simp
  | _ :: _, [] => by simp
  | p :: ps, u :: us => by
    rw [List.zip_cons_cons, List.map_cons]
    exact (zip_fst_sub ps us).cons₂ _
theorem zip_rev {ps : List Str} {us : List Value} {i : Nat} {y : Str} {u : Value} (nd : ps.Nodup) (h1 : ps[i]? = some y) (h2 : us[i]? = some u) : (ps.zip us).reverse.lookup y = some u := by
  refine lookup_mem ?_ ?_
  · rw [List.map_reverse]
    refine List.pairwise_reverse.mpr (List.Pairwise.imp (fun h => Ne.symm h) (show ((ps.zip us).map (·.1)).Nodup from nd.sublist (zip_fst_sub ps us)))
  · rw [List.mem_reverse]
    exact List.mem_of_getElem? (i := i) (by rw [List.getElem?_zip_eq_some]; exact ⟨h1, h2⟩)
section
variable {P : Program} {w : World} {K : PySem.W.Frag} {mg : Str → Option Value} {base : Heap} {A : Around} {outer : List Env} {s : Shared} {H : Hp} {f : Addr} {c : CloT} {cs : List Addr} {fvs vs : List V} {us : List Value} {N : List Str} {k : Nat} {Q : VK} {E : XK}
theorem clo_run (S : CloScope N c) (hr : Room (k + 1) A) (e0 : Env0 P w K mg base A outer s H) (ca : CloAt H f c cs fvs) (hb : ∀ (cl : List (Str × Addr)) (doc pm cd ctv : Value), BindsTo s (fnX c.name c.qual c.params c.body c.scope cl .none .none doc pm none cd ctv) ⟨us, []⟩ (c.ps.zip us)) (r : Vals vs us) (hl : vs.length = c.ps.length)
    (body : ∀ cd : Addr, Room k (A.deeper (envX c.qual c.scope s.heap.objs.size f (.ref cd) (c.xs.zip cs))) → ∃ t, PSs (cxClo P w K mg base N c.qual c.scope f (.ref cd) (c.xs.zip cs) A outer s (hide H cs)) c.body t ∧ t { nx := fun _ H' => Q .non (over H cs H'), rt := fun v H' => Q v (over H cs H') } (start N (vs ++ fvs)) (hide H cs)) :
    codeAny (model P w) A (.call (.ref f) ⟨us, []⟩) (CR CX0 outer P w H s Q E) s := by
  obtain ⟨⟨cd, doc, pm, ctv, oc, ws, tk, h1, h2, h3, h4⟩, hc, nd, len, lenV⟩ := ca
  have hx : ∀ a ∈ cs, ∃ o, H a = some (exactO a o) := fun a ha => by
    obtain ⟨i, hi⟩ := List.getElem?_of_mem ha
    obtain ⟨co, v, u, _, e, _⟩ := hc i a hi
    exact ⟨co, e⟩
  have lim : s.heap.NoLimit := e0.mod.nolimit.keeps fun b o e => (e0.bs b o e).1
  have ndP : c.ps.Nodup := by
    have : c.ps.Sublist N := by
      have h5 : (c.ps ++ c.xs).Sublist N := by rw [← S.pre]; exact List.take_sublist _ _
      exact (List.sublist_append_left _ _).trans h5
    exact S.nd.sublist this
  have ndX : c.xs.Nodup := by
    have : c.xs.Sublist N := by
      have h5 : (c.ps ++ c.xs).Sublist N := by rw [← S.pre]; exact List.take_sublist _ _
      exact (List.sublist_append_right _ _).trans h5
    exact S.nd.sublist this
  have hpl : c.ps.length + c.xs.length ≤ N.length := by
    have := congrArg List.length S.pre
    rw [List.length_take, List.length_append] at this
    omega
  refine codeAny_call_def (fd := fnX c.name c.qual c.params c.body c.scope (c.xs.zip cs) .none .none doc pm none (.ref cd) ctv) (binds := c.ps.zip us) hr.depth (exact_get e0.hok h1) rfl lim ⟨cd, oc, ws, tk, rfl, exact_get e0.hok h2, h3, h4⟩ rfl (hb _ _ _ _ _) S.nocell (fun y hy => S.par _ (List.of_mem_zip hy).1) (fun h0 hns hk => ?_) S.co S.gen S.kind
  obtain ⟨t, ht, hq⟩ := body cd (hr.deeper _)
  have hok0 := hide_ok e0.hok hx
  have I : Inv (cxClo P w K mg base N c.qual c.scope f (.ref cd) (c.xs.zip cs) A outer s (hide H cs)) [] (start N (vs ++ fvs)) (hide H cs) { s with heap := h0, toks := s.toks + (c.ps.zip us).length } := by
    refine ⟨⟨e0.mod, S.kind, rfl, rfl, Nat.le_refl _, fun y z b h5 h6 => ?_, fun y hy => ?_, fun y b h5 _ => absurd h5 Bool.false_ne_true, fun _ => hr.hd, Around.frames_deeper e0.frames, .inr ⟨rfl, rfl⟩, fun b z => absurd (show b ∈ ([] : List Addr) from z) (by simp), fun b o e => ⟨(e0.bs b o e).1, ?_⟩, e0.bsz, fun b _ _ z => absurd (show b ∈ ([] : List Addr) from z) (by simp), fun b z => absurd (show b ∈ ([] : List Addr) from z) (by simp), e0.funs, fun b hb' => ?_⟩,
      rfl, e0.bare, Un.kept hk, ⟨_, hns, fun i y v h5 h6 h7 => ?_⟩, fun y b h5 => ?_, hok0.fresh (Nat.le_refl _), fun y b h5 => ?_, fun p hp => absurd (show p ∈ ([] : List (Addr × Obj)) from hp) (by simp), hok0.kept hk, ?_⟩
    · obtain ⟨i, i1, i2⟩ := zip_lookup h5
      obtain ⟨j, j1, j2⟩ := zip_lookup h6
      have := (List.getElem?_inj (List.getElem?_eq_some_iff.mp i2).1 nd).mp (i2.trans j2.symm)
      subst this
      exact Option.some.inj (i1.symm.trans j1)
    · have hy : c.scope.names.lookup y = some .cell ∨ c.scope.names.lookup y = some .free := hy
      rcases hy with hy | hy
      · exact absurd rfl (S.nocell _ (PySem.mem_of_lookup hy))
      · exact zip_has len (S.fr _ (PySem.mem_of_lookup hy) rfl)
    · have n := (e0.bs b o e).2
      show hide H cs b = none
      rw [hide_out]
      · exact n
      · intro z
        obtain ⟨o', e'⟩ := hx b z
        rw [n] at e'
        cases e'
    · have n := e0.frf b hb'
      show hide H cs b = none
      rw [hide_out]
      · exact n
      · intro z
        obtain ⟨o', e'⟩ := hx b z
        rw [n] at e'
        cases e'
    · have hi : i < (vs ++ fvs).length := by
        unfold start at h6
        by_cases hi : i < (vs ++ fvs).length
        · exact hi
        · rw [List.getElem?_append_right (by simpa using hi)] at h6
          rw [List.getElem?_replicate] at h6
          split at h6 <;> cases h6
      have ha : (vs ++ fvs)[i]? = some v := by
        unfold start at h6
        rw [List.getElem?_append_left (by simpa using hi), List.getElem?_map] at h6
        cases e : (vs ++ fvs)[i]? with
        | none => rw [e] at h6; cases h6
        | some a => rw [e] at h6; cases h6; rfl
      rw [List.length_append] at hi
      have hp : (c.ps ++ c.xs)[i]? = some y := by
        rw [← S.pre, List.getElem?_take_of_lt (by omega)]
        exact h5
      by_cases hi2 : i < vs.length
      · rw [List.getElem?_append_left hi2] at ha
        rw [List.getElem?_append_left (by omega)] at hp
        obtain ⟨u, hu, rv⟩ := r.get ha
        exact ⟨u, rv, .inl ⟨S.par y (List.mem_of_getElem? hp), zip_rev ndP hp hu⟩⟩
      · rw [List.getElem?_append_right (by omega)] at ha
        rw [List.getElem?_append_right (by omega), ← hl] at hp
        have hj : i - vs.length < cs.length := by
          have := (List.getElem?_eq_some_iff.mp hp).1
          omega
        obtain ⟨b, hb5⟩ : ∃ b, cs[i - vs.length]? = some b := ⟨_, List.getElem?_eq_getElem hj⟩
        obtain ⟨co, v', u, q1, q2, q3, q4⟩ := hc _ b hb5
        rw [ha] at q1
        cases q1
        have hfree : c.scope.names.lookup y = some .free := by
          rcases h7 with q | q | q
          · exact absurd q (S.frn y (List.mem_of_getElem? hp))
          · exact absurd rfl (S.nocell _ (PySem.mem_of_lookup q))
          · exact q
        exact ⟨u, q4, .inr ⟨.inr hfree, b, zip_at ndX hp hb5, co, hk _ _ (exact_get e0.hok q2), q3⟩⟩
    · obtain ⟨i, i1, i2⟩ := zip_lookup h5
      obtain ⟨co, v', u, q1, q2, q3, q4⟩ := hc _ b i2
      exact ⟨_, co, hk _ _ (exact_get e0.hok q2), q3⟩
    · obtain ⟨i, i1, i2⟩ := zip_lookup h5
      exact hide_in (List.mem_of_getElem? i2)
    · unfold start
      show _ = N.length
      rw [List.length_append, List.length_map, List.length_replicate, List.length_append]
      omega
  have fin : ∀ {s' : Shared} {σ' : St} {H' : Hp} {v : V} {u : Value}, Inv (cxClo P w K mg base N c.qual c.scope f (.ref cd) (c.xs.zip cs) A outer s (hide H cs)) [] σ' H' s' → RelV v u → Q v (over H cs H') → CE outer P w H s Q u s' := fun {s' σ' H' v u} J rv q => by
    obtain ⟨k1, k2⟩ := over_ok e0.hok J.hok hx e0.frf J.base
    exact ⟨v, over H cs H', J.os, J.bare, k2, k1, rv, q⟩
  refine wpAny_mono (ht [] _ (start N (vs ++ fvs)) (hide H cs) _ I hq) (fun fl s' hs => ?_) fun e s' hs => False.elim hs
  cases fl with
  | ret u =>
    obtain ⟨v, σ', H', J, rv, q⟩ := hs
    exact fin J rv q
  | next =>
    obtain ⟨σ', H', J, q⟩ := hs
    exact fin (v := V.non) (u := Value.none) J rfl q
  | brk =>
    obtain ⟨_, _, _, q⟩ := hs
    exact False.elim q
  | cont =>
    obtain ⟨_, _, _, q⟩ := hs
    exact False.elim q
end
end L2

set_option Elab.async false
set_option linter.all false
set_option maxRecDepth 100000
set_option maxHeartbeats 4000000
namespace L2
open PySem PySem.Spec PyProof.Rows PySem.W
/-! ### a call of an inner def's object that a name holds -/
def CloOk (P : Program) (w : World) (K : PySem.W.Frag) (mg : Str → Option Value) (base : Heap) (k : Nat) (sp : Addr → Sp) : Prop :=
  ∀ (f : Addr) (A : Around) (outer : List Env) (s : Shared) (H : Hp) (us : List Value) (vs : List V) (Q : VK), Room k A → Env0 P w K mg base A outer s H → Vals vs us → sp f vs H Q E0 →
    codeAny (model P w) A (.call (.ref f) ⟨us, []⟩) (CR CX0 outer P w H s Q E0) s
theorem CloOk.mono {P : Program} {w : World} {K : PySem.W.Frag} {mg : Str → Option Value} {base : Heap} {j k : Nat} {sp : Addr → Sp} (F : CloOk P w K mg base j sp) (h : j ≤ k) : CloOk P w K mg base k sp :=
  fun f A outer s H us vs Q hr => F f A outer s H us vs Q (hr.mono h)
def tCallC (i : Nat) (sp : Addr → Sp) (t : TA) : TE := fun σ H Q => ∃ f o fd, σ[i]? = some (some (.ref f)) ∧ H f = some (exactO f o) ∧ o.data = .func fd ∧ t σ H fun vs H1 => H1 f = some (exactO f o) ∧ sp f vs H1 Q E0
section
variable {X : Cx} {k i : Nat} {x : Str} {p pos : Pos} {e : Expr} {es : List Expr} {t : TA} {sp : Addr → Sp}
theorem pe_callC (C : CloOk X.prog X.w X.K X.mg X.base k sp) (hr : Room k X.A) (hi : X.N[i]? = some x) (ha : PA X (e :: es) t) (hv : Vis X.env.scope x := by first | exact Or.inl rfl | exact Or.inr (Or.inl rfl) | exact Or.inr (Or.inr rfl))
    (hd : (x == ("__debug__" : Str)) = false := by decide) (hcd : (x == ("__classdict__" : Str)) = false := by decide)
    (he : starEach (e :: es) X.env = (false, eval e X.env) :: starEach es X.env := by rfl) (hpl : (backTo pos (starEach es X.env)).any (·.1) = false := by rfl) : PE X (.Call (.Name x p) (e :: es) [] pos) (tCallC i sp t) := by
  intro pins s σ H Q I h
  obtain ⟨f, o, fd, hs, hf, ho, h⟩ := h
  refine wpAny_Call_Name_kw (thn (pe_var hi hv hd hcd pins s σ H (fun v H' => v = .ref f ∧ H' = H) I ⟨_, hs, rfl, rfl⟩) fun u s1 hu => ?_)
  obtain ⟨v, H1, I1, rv, rfl, rfl⟩ := hu
  obtain rfl : u = Value.ref f := rv
  have fa : ∀ {H : Hp} {s : Shared}, Inv X pins σ H s → H f = some (exactO f o) → FnAt f s.heap := fun {H s} J hf => by
    obtain ⟨oc, od, dt, sl⟩ := o
    have ho : dt = .func fd := ho
    subst ho
    exact ⟨oc, od, fd, sl, exact_get J.hok hf⟩
  refine callWith_F (fa I1 hf) (thn (ha pos pins s1 σ H1 _ I1 h) fun us s2 ⟨vs, H2, I2, r, hf2, q⟩ => ⟨fa I2 hf2, ?_⟩) he hpl
  refine wpAny_call (codeAny_mono (C f X.A X.stack s2 H2 us vs Q hr I2.env0 r q) fun r s' hq => ?_)
  cases r with
  | error e => exact False.elim hq
  | ok fl =>
    cases fl with
    | ret u => exact I2.after hq
    | next => exact False.elim hq
    | brk => exact False.elim hq
    | cont => exact False.elim hq
end
/-! ### the def that makes one and hands it out -/
def BMain (mg : Str → Option Value) (h : Heap) : Prop := ∃ bm ob, mg "__builtins__" = some (.ref bm) ∧ bm ≠ builtinsNs ∧ h.get? bm = some ob ∧ ob.cls = .type "module" ∧ ob.dict = some builtinsNs ∧ ob.data = .plain
/-- the table at P of a code object: the code of the inner def at pos is not made yet, or it is known -/
def TabAt (H : Hp) (P : Addr) (pos : Pos) (qual : Str) : Prop := ∃ ps : Array Value, H P = some (.tbl ps) ∧ TriplesOk ps.toList ∧
  (codeAmong pos ps.toList = none ∨ ∃ (cd : Addr) (oc : Obj) (vs : Array Value) (t : Tok), codeAmong pos ps.toList = some (.ref cd) ∧ H cd = some (exactO cd oc) ∧ oc.data = .fields vs ∧ vs[1]? = some (.str qual t))
section
variable {X : Cx} {pins : List (Addr × Obj)} {σ : St} {H : Hp} {s : Shared} {c P : Addr} {name qual : Str} {params : Arguments} {body : List Stmt} {scope : Scope} {clos : List (Str × Addr)} {pos : Pos} {n : Nat}
theorem make_ok {M : Model} {A : Around} {E : Value → Shared → Prop} {Q : Value → Shared → Prop} (I : Inv X pins σ H s) (bm : BMain X.mg X.base) (hcode : X.env.code = .ref c) (C : CodeHd X.base c P) (hT : TabAt H P pos qual) (hcl : closureFor scope X.env = pure clos)
    (h : ∀ (fi cd : Addr) (doc pm ctv : Value) (oc : Obj) (vs : Array Value) (t : Tok) (H1 : Hp) (s1 : Shared), Inv X pins σ H1 s1 → H fi = none → (∀ b o, H b = some o → b ≠ P → H1 b = some o) → TabAt H1 P pos qual →
      H1 fi = some (exactO fi (fnMade name qual params body scope clos doc pm cd ctv)) → H1 cd = some (exactO cd oc) → oc.data = .fields vs → vs[1]? = some (.str qual t) → Q (.ref fi) s1) :
    wpAny M A (makeFunction name qual params (.stmts body) scope X.env [] [] [] pos n) Q E s := by
  obtain ⟨ps, hP, htr, hcase⟩ := hT
  have hPs : s.heap.get? P = some (tabObj ps) := I.hok P _ hP
  have G := I.mod.glob.keeps I.bk
  obtain ⟨bm, ob, b1, b2, b3, b4, b5, b6⟩ := bm
  have b3' := I.bk _ _ b3
  have hgP : mainGlobals ≠ P := fun q => by
    obtain ⟨o, es, ep, e, hd, _⟩ := G
    rw [q, hPs] at e; cases e; cases hd
  have hbP : bm ≠ P := fun q => by
    rw [q, hPs] at b3'; cases b3'; cases b4
  have hbG : bm ≠ mainGlobals := fun q => by
    obtain ⟨o, es, ep, e, hd, _⟩ := G
    rw [q, e] at b3'; cases b3'; rw [hd] at b6; cases b6
  have hbu : s.heap.BuiltinsAt X.mg P := ⟨bm, ob, b1, b2, hbG, hbP, b3', b4, b5, b6⟩
  rcases hcase with hnf | ⟨cd, oc, vs, t, hf, hcd, hd, hv⟩
  · refine makeFunction_K (mg := X.mg) hcl I.ok.glob G hcode (C.keeps I.bk) hPs htr hnf hgP hbu fun c' ctv doc h' tk hx hge hlt hrec htb => ?_
    obtain ⟨c2, oc, vs, t, e2, hoc, hd, hv⟩ := hrec
    cases e2
    have nc : H c' = none := I.hok.fresh hge
    have nf : H h'.objs.size = none := I.hok.fresh (Nat.le_trans hge (Nat.le_of_lt hlt))
    have nPc : P ≠ c' := ne_of_none hP nc
    have nPf : P ≠ h'.objs.size := ne_of_none hP nf
    have ncf : c' ≠ h'.objs.size := Nat.ne_of_lt hlt
    have k1 : ∀ b, b ≠ P → b ≠ c' → b ≠ h'.objs.size → upd (upd (upd H P (.tbl (ps ++ #[rawInt pos.line, rawInt pos.col, .ref c']))) c' (exactO c' oc)) h'.objs.size (exactO h'.objs.size (fnMade name qual params body scope clos doc ((X.mg "__name__").getD .none) c' ctv)) b = H b := fun b e1 e2 e3 => by
      rw [upd_ne e3, upd_ne e2, upd_ne e1]
    have kS : ∀ b o, H b = some o → b ≠ P → upd (upd (upd H P (.tbl (ps ++ #[rawInt pos.line, rawInt pos.col, .ref c']))) c' (exactO c' oc)) h'.objs.size (exactO h'.objs.size (fnMade name qual params body scope clos doc ((X.mg "__name__").getD .none) c' ctv)) b = some o := fun b o e n => by
      rw [k1 b n (ne_of_none e nc) (ne_of_none e nf)]
      exact e
    have kP : upd (upd (upd H P (.tbl (ps ++ #[rawInt pos.line, rawInt pos.col, .ref c']))) c' (exactO c' oc)) h'.objs.size (exactO h'.objs.size (fnMade name qual params body scope clos doc ((X.mg "__name__").getD .none) c' ctv)) P = some (.tbl (ps ++ #[rawInt pos.line, rawInt pos.col, .ref c'])) := by
      rw [upd_ne nPf, upd_ne nPc, upd_same]
    have kc : upd (upd (upd H P (.tbl (ps ++ #[rawInt pos.line, rawInt pos.col, .ref c']))) c' (exactO c' oc)) h'.objs.size (exactO h'.objs.size (fnMade name qual params body scope clos doc ((X.mg "__name__").getD .none) c' ctv)) c' = some (exactO c' oc) := by
      rw [upd_ne ncf, upd_same]
    have kf : upd (upd (upd H P (.tbl (ps ++ #[rawInt pos.line, rawInt pos.col, .ref c']))) c' (exactO c' oc)) h'.objs.size (exactO h'.objs.size (fnMade name qual params body scope clos doc ((X.mg "__name__").getD .none) c' ctv)) h'.objs.size = some (exactO h'.objs.size (fnMade name qual params body scope clos doc ((X.mg "__name__").getD .none) c' ctv)) := upd_same
    generalize upd (upd (upd H P (.tbl (ps ++ #[rawInt pos.line, rawInt pos.col, .ref c']))) c' (exactO c' oc)) h'.objs.size (exactO h'.objs.size (fnMade name qual params body scope clos doc ((X.mg "__name__").getD .none) c' ctv)) = H1 at *
    have old : ∀ b o, s.heap.get? b = some o → b ≠ P → (h'.push (fnMade name qual params body scope clos doc ((X.mg "__name__").getD .none) c' ctv)).get? b = some o := fun b o e n => Heap.get?_push_of_some _ (hx b o n e)
    have tabP : (h'.push (fnMade name qual params body scope clos doc ((X.mg "__name__").getD .none) c' ctv)).get? P = some (tabObj (ps ++ #[rawInt pos.line, rawInt pos.col, .ref c'])) := Heap.get?_push_of_some _ htb
    have hl : (ps ++ #[rawInt pos.line, rawInt pos.col, .ref c']).toList = ps.toList ++ [rawInt pos.line, rawInt pos.col, .ref c'] := by simp
    refine h h'.objs.size c' doc _ ctv oc vs t H1 _ (I.call' (ch := []) rfl ⟨fun b o e n hb hx' => ?_, fun b o e n hb hx' => ?_, fun b o e n hx' => ?_, fun b o e hx' => ?_, fun b xs e => ?_, fun b o u e => ?_, fun b qs e => ?_⟩ (fun b u e => ?_) I.bare fun b z => absurd z (by simp)) nf kS ⟨_, kP, by rw [hl]; exact TriplesOk_snoc _ _ _ _ htr, .inr ⟨c', oc, vs, t, by rw [hl]; exact codeAmong_snoc _ htr hnf, kc, hd, hv⟩⟩ kf kc hd hv
    · exact old b o e fun z => by rw [z, hP] at n; cases n
    · exact ⟨o.slots, old b o e fun z => by rw [z, hP] at n; cases n⟩
    · rw [k1 b (fun z => by rw [z, hP] at n; cases n) (Nat.ne_of_lt (Nat.lt_of_lt_of_le (Heap.lt_size e) hge)) (Nat.ne_of_lt (Nat.lt_of_lt_of_le (Heap.lt_size e) (Nat.le_trans hge (Nat.le_of_lt hlt))))]
      exact n
    · by_cases z : b = P
      · exact ⟨_, by rw [z]; exact tabP⟩
      · exact ⟨o, old b o e z⟩
    · exact kS b _ e fun z => by rw [z, hP] at e; cases e
    · exact kS b _ e fun z => by rw [z, hP] at e; cases e
    · by_cases z : b = P
      · rw [z, hP] at e
        cases e
        exact ⟨_, by rw [z]; exact kP⟩
      · exact ⟨#[], by rw [kS b _ e z]; simp⟩
    · by_cases z1 : b = h'.objs.size
      · rw [z1, kf] at e
        cases e
        rw [z1]
        exact exact_ok (Heap.get?_push_size _ rfl)
      by_cases z2 : b = c'
      · rw [z2, kc] at e
        cases e
        rw [z2]
        exact exact_ok (Heap.get?_push_of_some _ hoc)
      by_cases z3 : b = P
      · rw [z3, kP] at e
        cases e
        rw [z3]
        exact tabP
      rw [k1 b z3 z2 z1] at e
      refine (I.hok b u e).stay (fun d o hd' q => old d o q ?_) (fun d q => kS d _ q ?_) fun d xs q => kS d _ q ?_
      · rcases hd' with rfl | hd'
        · exact z3
        · exact fun z => by rw [z, hP] at hd'; cases hd'
      · exact fun z => by rw [z, hP] at q; cases q
      · exact fun z => by rw [z, hP] at q; cases q
  · refine makeFunction_hit (mg := X.mg) hcl I.ok.glob G hcode (C.keeps I.bk) hPs htr hf hbu fun ctv doc h' tk hk hsz => ?_
    have nf : H h'.objs.size = none := I.hok.fresh hsz
    have kS : ∀ b o, H b = some o → upd H h'.objs.size (exactO h'.objs.size (fnMade name qual params body scope clos doc ((X.mg "__name__").getD .none) cd ctv)) b = some o := fun b o e => by
      rw [upd_ne (ne_of_none e nf)]
      exact e
    have old : ∀ b o, s.heap.get? b = some o → (h'.push (fnMade name qual params body scope clos doc ((X.mg "__name__").getD .none) cd ctv)).get? b = some o := fun b o e => Heap.get?_push_of_some _ (hk b o e)
    refine h h'.objs.size cd doc _ ctv oc vs t _ _ (I.call' (ch := []) rfl (Un.laid old hsz nf) (fun b u e => ?_) I.bare fun b z => absurd z (by simp)) nf (fun b o e _ => kS b o e) ⟨ps, kS _ _ hP, htr, .inr ⟨cd, oc, vs, t, hf, kS _ _ hcd, hd, hv⟩⟩ upd_same (kS _ _ hcd) hd hv
    by_cases z1 : b = h'.objs.size
    · rw [z1, upd_same] at e
      cases e
      rw [z1]
      exact exact_ok (Heap.get?_push_size _ rfl)
    rw [upd_ne z1] at e
    exact (I.hok b u e).stay (fun d o _ q => old d o q) (fun d q => kS d _ q) fun d xs q => kS d _ q
end
section
variable {CX : CXT} {P : Program} {w : World} {K : PySem.W.Frag} {mg : Str → Option Value} {base : Heap} {N : List Str} {qual : Str} {scope : Scope} {f c Pt : Addr} {A : Around} {outer : List Env} {s0 s : Shared} {H0 H : Hp} {E : XK} {σ : St} {Q : VK}
/-- def inner ..; return inner: the cells are tracked from now on -/
theorem def_ret {T : CloT} {cs : List Addr} {fvs : List V} {pos p1 p2 : Pos} {i : Nat} (I : Inv (cxOf CX P w K mg base N qual scope f (.ref c) A outer s0 H0 E) [] σ H s) (bm : BMain mg base) (C : CodeHd base c Pt) (hT : TabAt H Pt pos T.qual)
    (hnd : N.Nodup) (hi : N[i]? = some T.name) (hloc : scope.names.lookup T.name = some .local) (hq : qualnameIn (envOfC qual scope s0.heap.objs.size f (.ref c)) T.name T.name = T.qual)
    (hcl : closureFor T.scope (envOfC qual scope s0.heap.objs.size f (.ref c)) = pure (T.xs.zip cs)) (hd0 : T.params.defaults = []) (hk0 : T.params.kw_defaults = []) (ha : annTrees T.params none (envOfC qual scope s0.heap.objs.size f (.ref c)) = [])
    (hndC : cs.Nodup) (hlen : cs.length = T.xs.length) (hlenV : fvs.length = T.xs.length)
    (hfv : ∀ (j : Nat) (a : Addr), cs[j]? = some a → ∃ (x : Str) (m : Nat) (v : V), (envOfC qual scope s0.heap.objs.size f (.ref c)).cells.lookup x = some a ∧ scope.names.lookup x = some .cell ∧ N[m]? = some x ∧ σ[m]? = some (some v) ∧ fvs[j]? = some v ∧ m ≠ i)
    (hQ : ∀ (fi : Addr) (H2 : Hp), H fi = none → (∀ a ∈ cs, H a = none) → (∀ b o, H b = some o → b ≠ Pt → H2 b = some o) → TabAt H2 Pt pos T.qual → CloAt H2 fi T cs fvs → Q (.ref fi) H2)
    (hdb : (T.name == ("__debug__" : Str)) = false := by decide) (hcdn : (T.name == ("__classdict__" : Str)) = false := by decide) :
    wpAny (model P w) (A.deeper (envOfC qual scope s0.heap.objs.size f (.ref c))) (execs [.FunctionDef T.name T.params T.body [] none [] T.scope none T.name pos, .Return (some (.Name T.name p1)) p2] (envOfC qual scope s0.heap.objs.size f (.ref c)))
      (fun fl s' => ∃ u, fl = .ret u ∧ CE outer P w H0 s0 Q u s') (cxOf CX P w K mg base N qual scope f (.ref c) A outer s0 H0 E).xe s := by
  refine wpAny_execs_cons (nestDef_K hd0 hk0 ha ?_)
  rw [hq]
  refine make_ok (X := cxOf CX P w K mg base N qual scope f (.ref c) A outer s0 H0 E) (n := pos.line) I bm rfl C hT hcl fun fi cd doc pm ctv oc vs t H1 s1 I1 nfi keep hT1 hf1 hc1 hd hv => ?_
  refine store_ok (X := cxOf CX P w K mg base N qual scope f (.ref c) A outer s0 H0 E) (v := .ref fi) I1 hnd hi (.inl hloc) rfl (fun s2 I2 => ?_) (.inr hloc)
  have hiσ : i < σ.length := by rw [I.len]; exact (List.getElem?_eq_some_iff.mp hi).1
  refine wpAny_execs_cons (wpAny_Return_some (thn (pe_var (X := cxOf CX P w K mg base N qual scope f (.ref c) A outer s0 H0 E) hi (.inl hloc) hdb hcdn [] s2 _ H1 (fun v H' => v = .ref fi ∧ H' = H1) I2 ⟨_, List.getElem?_set_self hiσ, rfl, rfl⟩) fun u s3 hu => ?_))
  obtain ⟨v, H', J, rv, rfl, rfl⟩ := hu
  refine ⟨u, rfl, .ref fi, fun b => if b ∈ cs then (s3.heap.get? b).map (exactO b) else H' b, J.os, J.bare, ?_, ?_, rv, ?_⟩
  all_goals
    have cellsOf : ∀ a ∈ cs, ∃ x, (envOfC qual scope s0.heap.objs.size f (.ref c)).cells.lookup x = some a := fun a ha' => by
      obtain ⟨j, hj⟩ := List.getElem?_of_mem ha'
      obtain ⟨x, m, v, h1, _⟩ := hfv j a hj
      exact ⟨x, h1⟩
    have fresh : ∀ a ∈ cs, s0.heap.objs.size ≤ a := fun a ha' => by
      obtain ⟨x, hx⟩ := cellsOf a ha'
      exact J.ok.cab x a rfl hx
    have gone : ∀ a ∈ cs, H' a = none := fun a ha' => by
      obtain ⟨x, hx⟩ := cellsOf a ha'
      exact J.freeC x a hx
    have out : ∀ b o, H' b = some o → b ∉ cs := fun b o e z => by
      rw [gone b z] at e
      cases e
  · have U : Un (frs outer) [] H0 H' s0.heap s3.heap := J.base
    refine ⟨U.keep, U.slot, fun b o e n hx' => ?_, U.there, fun b xs e => ?_, fun b o v e => ?_, fun b ps e => ?_⟩
    · show (if b ∈ cs then _ else H' b) = none
      rw [if_neg (fun z => absurd (Nat.lt_of_lt_of_le (Heap.lt_size e) (fresh b z)) (Nat.lt_irrefl _))]
      exact U.free b o e n hx'
    · have e1 := U.tups b xs e
      show (if b ∈ cs then _ else H' b) = _
      rw [if_neg (out b _ e1)]
      exact e1
    · have e1 := U.frzs b o v e
      show (if b ∈ cs then _ else H' b) = _
      rw [if_neg (out b _ e1)]
      exact e1
    · obtain ⟨more, e1⟩ := U.tbls b ps e
      refine ⟨more, ?_⟩
      show (if b ∈ cs then _ else H' b) = _
      rw [if_neg (out b _ e1)]
      exact e1
  · intro b u' e
    have e : (if b ∈ cs then (s3.heap.get? b).map (exactO b) else H' b) = some u' := e
    by_cases hb : b ∈ cs
    · rw [if_pos hb] at e
      cases q : s3.heap.get? b with
      | none => rw [q] at e; cases e
      | some o =>
        rw [q] at e
        cases e
        exact exact_ok q
    · rw [if_neg hb] at e
      refine (J.hok b u' e).stay (fun _ _ _ q => q) (fun d q => ?_) fun d xs q => ?_
      · show (if d ∈ cs then _ else H' d) = _
        rw [if_neg (out d _ q)]
        exact q
      · show (if d ∈ cs then _ else H' d) = _
        rw [if_neg (out d _ q)]
        exact q
  · have kp : ∀ b o, H' b = some o → (fun b => if b ∈ cs then (s3.heap.get? b).map (exactO b) else H' b) b = some o := fun b o e => by
      show (if b ∈ cs then _ else H' b) = _
      rw [if_neg (out b _ e)]
      exact e
    refine hQ fi _ nfi (fun a ha' => ?_) (fun b o e n => kp b o (keep b o e n)) ?_ ⟨⟨cd, doc, pm, ctv, oc, vs, t, kp _ _ hf1, kp _ _ hc1, hd, hv⟩, fun j a hj => ?_, hndC, hlen, hlenV⟩
    · obtain ⟨x, hx⟩ := cellsOf a ha'
      exact I.freeC x a hx
    · obtain ⟨ps, e1, e2, e3⟩ := hT1
      refine ⟨ps, kp _ _ e1, e2, ?_⟩
      rcases e3 with e3 | ⟨cd', oc', vs', t', e4, e5, e6⟩
      · exact .inl e3
      · exact .inr ⟨cd', oc', vs', t', e4, kp _ _ e5, e6⟩
    · obtain ⟨x, m, v, h1, h2, h3, h4, h5, h6⟩ := hfv j a hj
      obtain ⟨mm, _, hl⟩ := J.loc
      obtain ⟨u', r', l⟩ := hl m x v h3 (by rw [List.getElem?_set_ne (Ne.symm h6)]; exact h4) (.inr (.inl h2))
      have l' : ∃ c', (envOfC qual scope s0.heap.objs.size f (.ref c)).cells.lookup x = some c' ∧ s3.heap.IsCell c' (some u') := by
        rcases l with ⟨l1, _⟩ | ⟨_, l2⟩
        · have l1 : scope.names.lookup x = some .local := l1
          rw [h2] at l1
          cases l1
        · exact l2
      obtain ⟨c', l1, co, l2, l3⟩ := l'
      rw [h1] at l1
      cases l1
      refine ⟨co, v, u', h5, ?_, l3, r'⟩
      show (if a ∈ cs then (s3.heap.get? a).map (exactO a) else H' a) = _
      rw [if_pos (List.mem_of_getElem? hj), l2]
      rfl
/-- a def of the text by its run -/
theorem fn_raw {k : Nat} {name : Str} {params : Arguments} {body : List Stmt} {dV kV doc pm cdv ct oc : Value} {an od : Option Addr} {osl : Array (Option Value)} {ps : List Str} {sp : Sp} (lk : K.lookup f = some ⟨oc, od, .func (PySem.W.fnOf name qual params body scope dV kV doc pm an cdv ct), osl⟩) (hcd : PySem.W.codeIn K cdv qual = true) (S : FnScope N ps scope)
    (len : ∀ vs H Q E, sp vs H Q E → vs.length = ps.length)
    (hbody : ∀ (A : Around) (outer : List Env) (s : Shared) (H : Hp) (vs : List V) (Q : VK) (E : XK) (s1 : Shared), Room k (A.deeper (envOfC qual scope s.heap.objs.size f cdv)) → sp vs H Q E → Inv (cxOf CX0 P w K mg base N qual scope f cdv A outer s H E) [] (start N vs) H s1 →
      wpAny (model P w) (A.deeper (envOfC qual scope s.heap.objs.size f cdv)) (execs body (envOfC qual scope s.heap.objs.size f cdv)) (fun fl s' => ∃ u, fl = .ret u ∧ CE outer P w H s Q u s') (cxOf CX0 P w K mg base N qual scope f cdv A outer s H E).xe s1) :
    FnOk P w K mg base CX0 (k + 1) f (PySem.W.fnOf name qual params body scope dV kV doc pm an cdv ct) ps sp := by
  refine ⟨len, fun A outer s H args us vs Q E hr e0 hb r hsp => ?_⟩
  have hl := len _ _ _ _ hsp
  have KX : K.In s.heap := e0.mod.kin.keeps fun b o e => (e0.bs b o e).1
  have lim : s.heap.NoLimit := e0.mod.nolimit.keeps fun b o e => (e0.bs b o e).1
  have hkind : ∀ y ∈ ps.zip us, scope.names.lookup y.1 = some .local ∨ (scope.names.lookup y.1 = some .cell ∧ ((cellsFrom (s.heap.objs.size + 1) scope.names []).lookup y.1).isSome = true) := fun ⟨n, v⟩ hy => by
    rcases S.par n (List.of_mem_zip hy).1 with q | q
    · exact .inl q
    · exact .inr ⟨q, PySem.W.cellsFrom_some _ _ _ (.inl q)⟩
  refine codeAny_call_function hr.depth (KX _ _ lk) rfl S.co S.gen rfl (PySem.W.codeRec_of KX hcd) (hb _ _ _ _ ?_)
  refine wpAny_newFunctionEnv_cells S.kind hkind fun env he s1 x => ?_
  subst he
  refine ⟨lim.keeps x.toInCall.keep, codeAny_func ?_⟩
  have I : Inv (cxOf CX0 P w K mg base N qual scope f cdv A outer s H E) [] (start N vs) H s1 := inv_start S hr.hd e0 hl r x
  refine wpAny_mono (hbody A outer s H vs Q E s1 (hr.deeper _) hsp I) (fun fl s' hs => ?_) fun e s' hs => hs
  obtain ⟨u, rfl, q⟩ := hs
  exact q
end
end L2

set_option Elab.async false
set_option linter.all false
set_option maxRecDepth 100000
set_option maxHeartbeats 4000000
namespace L2
open PySem PySem.Spec PyProof.Rows PySem.W
/-- THE HEAD where defs are made inside of defs: the tables of their code objects grow -/
theorem law_callG {P : Program} {w : World} {K : PySem.W.Frag} {mg mb : Str → Option Value} {k : Nat} {fa a : Addr} {fd : FuncData} {x : Str} {sp : Sp} {s₁ : Shared} {vs : List Value} {ns : List Int} {tabs : List (Addr × Addr)}
    (KX : K.In s₁.heap) (hns : s₁.heap.Ns mainGlobals mg) (hb : s₁.heap.Ns builtinsNs mb) (hbb : ∀ x : Str, x ≠ "__name__" → mb x = bootBuiltins x) (hlim : s₁.heap.NoLimit) (hbm : BMain mg s₁.heap) (hT : TabsAt tabs s₁.heap) (hNT : noTabs K = true) (hg : s₁.gens = #[])
    (ha : s₁.heap.get? a = some { cls := .type "list", data := .seq vs.toArray }) (hi : IntsAre vs ns) (hl : ns.length ≤ sizeLine) (hr : Room k callerA)
    (F : ∀ base : Heap, K.In base → base.Ns mainGlobals mg → BMain mg base → (∀ q ∈ tabs, CodeHd base q.1 q.2) → FnOk P w K mg base CX0 k fa fd [x] sp) (hbind : ∀ (s : Shared) (u : Value), BindsTo s fd ⟨[u], []⟩ [(x, u)])
    (hsp : ∀ H : Hp, SqL K H a (ns.map V.int) → (∀ q ∈ tabs, H q.2 = some (.tbl #[])) → sp [.ref a] H (fun v _ => v = .bl true) fun _ _ _ => False) :
    codeAny (model P w) callerA (.call (.ref fa) ⟨[.ref a], []⟩) (fun r s' => r = .ok (.ret (.bool true)) ∧ OldK s₁.heap s'.heap ∧ s'.os = s₁.os ∧ AllBare s'.gens) s₁ := by
  have rv := vals_ints hi
  have lenV := hi.length
  have tabNoK : ∀ b, b ∈ tabs.map (·.2) → K.lookup b = none := fun b hb' => by
    cases q : K.lookup b with
    | none => rfl
    | some o =>
      obtain ⟨r, hr', rfl⟩ := List.mem_map.mp hb'
      have e := KX _ _ q
      rw [(hT r hr').2] at e
      cases e
      have h2 := List.all_eq_true.mp hNT _ (mem_of_lookupK q)
      exact absurd (show false = true from h2) Bool.false_ne_true
  have aNoT : a ∉ tabs.map (·.2) := fun z => by
    obtain ⟨r, hr', e⟩ := List.mem_map.mp z
    have e2 := (hT r hr').2
    rw [e, ha] at e2
    cases e2
  have core : ∀ H : Hp, (∀ b, H b = none ∨ (b = a ∧ K.lookup a = none ∧ H b = some (.frz { cls := .type "list", data := .seq vs.toArray } (.lst (ns.map V.int)))) ∨ (b ∈ tabs.map (·.2) ∧ H b = some (.tbl #[]))) → (∀ q ∈ tabs, H q.2 = some (.tbl #[])) → SqL K H a (ns.map V.int) → HOk P w H s₁.heap →
      codeAny (model P w) callerA (.call (.ref fa) ⟨[.ref a], []⟩) (fun r s' => r = .ok (.ret (.bool true)) ∧ OldK s₁.heap s'.heap ∧ s'.os = s₁.os ∧ AllBare s'.gens) s₁ := by
    intro H hO hTb hS hok
    have base_of : ∀ {b : Addr} {o : Obj}, s₁.heap.get? b = some o → H b = none → (hidT s₁.heap H).get? b = some o := fun e n => hidT_get e n
    have noA : ∀ {b : Addr} {o : Obj}, s₁.heap.get? b = some o → o.cls ≠ .type "list" → o.cls ≠ .none → H b = none := fun {b o} e d1 d2 => by
      rcases hO b with z | ⟨rfl, _, z⟩ | ⟨z, _⟩
      · exact z
      · rw [ha] at e
        cases e
        exact absurd rfl d1
      · obtain ⟨r, hr', rfl⟩ := List.mem_map.mp z
        rw [(hT r hr').2] at e
        cases e
        exact absurd rfl d2
    have noD : ∀ {b : Addr} {o : Obj} {es : Array DictEntry} {ep : Nat}, s₁.heap.get? b = some o → o.data = .dict es ep → H b = none := fun {b o es ep} e d => by
      rcases hO b with z | ⟨rfl, _, z⟩ | ⟨z, _⟩
      · exact z
      · rw [ha] at e; cases e
        have d' : Data.seq vs.toArray _ = Data.dict es ep := d
        cases d'
      · obtain ⟨r, hr', rfl⟩ := List.mem_map.mp z
        rw [(hT r hr').2] at e
        cases e
        have d' : Data.fields _ = Data.dict es ep := d
        cases d'
    have nsK : ∀ {b : Addr} {m : Str → Option Value}, s₁.heap.Ns b m → (hidT s₁.heap H).Ns b m := fun {b m} ⟨o, es, ep, e, d, r⟩ => ⟨o, es, ep, base_of e (noD e d), d, r⟩
    have hKb : K.In (hidT s₁.heap H) := fun b o e => base_of (KX b o e) (by
      rcases hO b with z | ⟨rfl, z, _⟩ | ⟨z, _⟩
      · exact z
      · rw [e] at z; cases z
      · rw [tabNoK b z] at e; cases e)
    have hM : Mod K mg (hidT s₁.heap H) := ⟨hKb, nsK hns, ⟨mb, nsK hb, hbb⟩, let ⟨mc, h1, h2⟩ := hlim; ⟨mc, nsK h1, h2⟩⟩
    have hB : BMain mg (hidT s₁.heap H) := by
      obtain ⟨bm, ob, b1, b2, b3, b4, b5⟩ := hbm
      exact ⟨bm, ob, b1, b2, base_of b3 (noA b3 (by rw [b4]; decide) (by rw [b4]; nofun)), b4, b5⟩
    have hC : ∀ q ∈ tabs, CodeHd (hidT s₁.heap H) q.1 q.2 := fun q hq => by
      obtain ⟨o, ws, file, tf, flags, tg, inF, text, tt, e1, r1, r2⟩ := (hT q hq).1
      exact ⟨o, ws, file, tf, flags, tg, inF, text, tt, base_of e1 (noA e1 (by rw [r1]; decide) (by rw [r1]; nofun)), r1, r2⟩
    have e0 : Env0 P w K mg (hidT s₁.heap H) callerA [] s₁ H := ⟨rfl, hM, fun b o e => of_hidT e, Nat.le_of_eq (hidT_size _ _), trivial, fun b hb => absurd (show b ∈ ([] : List Addr) from hb) (by simp), hok, .of_eq hg⟩
    refine codeAny_mono ((F _ hKb (nsK hns) hB hC).run callerA [] s₁ H ⟨[.ref a], []⟩ [.ref a] [.ref a] _ _ hr e0 (hbind s₁ (.ref a)) (.cons rfl .nil) (hsp H hS hTb)) fun r s' h => ?_
    cases r with
    | error e => exact False.elim h
    | ok fl =>
      cases fl with
      | next => exact False.elim h
      | brk => exact False.elim h
      | cont => exact False.elim h
      | ret u =>
        obtain ⟨v, H', os, bare, un, hok', r', q⟩ := h
        have q' : v = .bl true := q
        subst q'
        obtain rfl : u = Value.bool true := r'
        refine ⟨rfl, ⟨fun b o e => ?_, fun b o e => un.there b o e (by simp)⟩, os, bare⟩
        rcases hO b with z | ⟨rfl, _, z⟩ | ⟨z1, z⟩
        · exact .inl (un.keep b o e z (by intro z; exact absurd (show b ∈ ([] : List Addr) from z) (by simp)) (by simp))
        · have z2 := un.frzs b _ _ z
          obtain ⟨e1, _⟩ := hok b _ z
          obtain ⟨e2, _⟩ := hok' b _ z2
          rw [e] at e1; cases e1
          exact .inl e2
        · obtain ⟨more, z2⟩ := un.tbls b _ z
          have e1 : s'.heap.get? b = some { cls := .none, data := .fields (#[] ++ more) } := hok' b _ z2
          obtain ⟨r, hr', rfl⟩ := List.mem_map.mp z1
          have e2 := (hT r hr').2
          rw [e] at e2
          cases e2
          exact .inr (.inl ⟨((hT r hr').1.tab (hT r hr').2).isCodeTable, rfl, #[], more, rfl, e1⟩)
  cases hk : K.lookup a with
  | some o =>
    have e := KX a o hk
    rw [ha] at e
    cases e
    refine core (fun b => if b ∈ tabs.map (·.2) then some (.tbl #[]) else none) (fun b => ?_) (fun q hq => if_pos (List.mem_map_of_mem hq)) (.inr ⟨_, vs.toArray, _, hk, rfl, rfl, rfl, by rw [List.size_toArray, lenV]; exact hl, by simpa using rv⟩) (fun b u z => ?_)
    · by_cases hb' : b ∈ tabs.map (·.2)
      · exact .inr (.inr ⟨hb', if_pos hb'⟩)
      · exact .inl (if_neg hb')
    · by_cases hb' : b ∈ tabs.map (·.2)
      · have z' := (if_pos hb').symm.trans z
        cases z'
        obtain ⟨r, hr', rfl⟩ := List.mem_map.mp hb'
        exact (hT r hr').2
      · have z' := (if_neg hb').symm.trans z
        cases z'
  | none =>
    have hA : (fun b => if b = a then some (.frz { cls := .type "list", data := .seq vs.toArray } (.lst (ns.map V.int))) else if b ∈ tabs.map (·.2) then some (.tbl #[]) else none : Hp) a = some (.frz { cls := .type "list", data := .seq vs.toArray } (.lst (ns.map V.int))) := if_pos rfl
    have hTt : ∀ b ∈ tabs.map (·.2), (fun b => if b = a then some (.frz { cls := .type "list", data := .seq vs.toArray } (.lst (ns.map V.int))) else if b ∈ tabs.map (·.2) then some (.tbl #[]) else none : Hp) b = some (.tbl #[]) := fun b hb' => by
      have hne : b ≠ a := fun e => aNoT (e ▸ hb')
      show (if b = a then _ else if b ∈ tabs.map (·.2) then _ else _) = _
      rw [if_neg hne, if_pos hb']
    have hN : ∀ b, b ≠ a → b ∉ tabs.map (·.2) → (fun b => if b = a then some (.frz { cls := .type "list", data := .seq vs.toArray } (.lst (ns.map V.int))) else if b ∈ tabs.map (·.2) then some (.tbl #[]) else none : Hp) b = none := fun b h1 h2 => by
      show (if b = a then _ else if b ∈ tabs.map (·.2) then _ else _) = _
      rw [if_neg h1, if_neg h2]
    generalize (fun b => if b = a then some (.frz { cls := .type "list", data := .seq vs.toArray } (.lst (ns.map V.int))) else if b ∈ tabs.map (·.2) then some (.tbl #[]) else none : Hp) = H at *
    refine core H (fun b => ?_) (fun q hq => hTt _ (List.mem_map_of_mem hq)) (.inl (.inr ⟨{ cls := .type "list", data := .seq vs.toArray }, hA⟩)) (fun b u z => ?_)
    · by_cases h1 : b = a
      · rw [h1]
        exact .inr (.inl ⟨rfl, hk, hA⟩)
      · by_cases h2 : b ∈ tabs.map (·.2)
        · exact .inr (.inr ⟨h2, hTt b h2⟩)
        · exact .inl (hN b h1 h2)
    · by_cases h1 : b = a
      · rw [h1, hA] at z
        cases z
        rw [h1]
        exact ⟨ha, by rw [List.length_map]; exact hl, vs, _, rv, ha⟩
      · by_cases h2 : b ∈ tabs.map (·.2)
        · rw [hTt b h2] at z
          cases z
          obtain ⟨r, hr', rfl⟩ := List.mem_map.mp h2
          exact (hT r hr').2
        · rw [hN b h1 h2] at z
          cases z
theorem walk_ofG {l : PySem.W.OpenLaw} {n k : Nat} {q : Program} {loose : List Str} {XP : (Str → Option Value) → Heap → Prop} {YP : World → Heap → Prop} {d : DefRec} {K : Params → PySem.W.Frag} {x : Str}
    (hn : l.most = some n) (hn2 : n ≤ sizeLine) (hdf : d.params.defaults = []) (hr : Room k callerA)
    (hY : ∀ (w : World) (h : Heap), YP w h → (K w.params).In h)
    (F : ∀ (w : World) (mg mb : Str → Option Value) (mean : ExcName → Option Value) (fa : Addr) (h : Heap), (K w.params).In h → Top q (looseW q loose) mean mg mb h → mg d.name = some (.ref fa) →
      ∃ (fd : FuncData) (tabs : List (Addr × Addr)) (sp : Sp), (∀ (s : Shared) (u : Value), BindsTo s fd ⟨[u], []⟩ [(x, u)]) ∧ TabsAt tabs h ∧ noTabs (K w.params) = true ∧
        (∀ base : Heap, (K w.params).In base → base.Ns mainGlobals mg → BMain mg base → (∀ q ∈ tabs, CodeHd base q.1 q.2) → FnOk l.prog w (K w.params) mg base CX0 k fa fd [x] sp) ∧
        ∀ (H : Hp) (a : Addr) (ns : List Int), ns.length ≤ n → SqL (K w.params) H a (ns.map V.int) → (∀ q ∈ tabs, H q.2 = some (.tbl #[])) → sp [.ref a] H (fun v _ => v = .bl true) fun _ _ _ => False) :
    PySem.W.WalkO q loose XP YP l.row.toRowW d [] (fun f vs => PySem.call f vs) := by
  refine Att.attach_call hn hdf fun w s₀ s₁ mg mb fa o pm cd doc a vs ns G Y ho hd hcd hmg hobj hints hlen hg => ?_
  have KX := hY w _ Y
  obtain ⟨fd, tabs, sp, hb, hT, hNT, hF, hsp⟩ := F w mg mb _ fa _ KX G.T hmg
  exact law_callG KX G.T.g G.T.b G.T.builtins G.T.nolimit G.T.bmain hT hNT hg hobj hints (Nat.le_trans hlen hn2) hr hF hb fun H hS hTb => hsp H a ns hlen hS hTb
end L2

set_option Elab.async false
set_option linter.all false
set_option maxRecDepth 100000
set_option maxHeartbeats 4000000
namespace L2
open PySem PySem.Spec PyProof.Rows PySem.W
/-! ### makers of inner defs, in short -/
def cloOf (st : Stmt) (qual : Str) (ps xs : List Str) : CloT := match st with
  | .FunctionDef n a b _ _ _ sc _ _ _ => ⟨n, qual, a, b, sc, ps, xs⟩
  | _ => ⟨"", qual, defArgs st, [], defScope st, ps, xs⟩
def posOf : Stmt → Pos
  | .FunctionDef _ _ _ _ _ _ _ _ _ p => p
  | _ => ⟨0, 0, 0, 0⟩
structure MkOk (N : List Str) (qual : Str) (scope : Scope) (T : CloT) (i : Nat) (slots : List Nat) (csF : Addr → List Addr) : Prop where
  nd : N.Nodup
  hi : N[i]? = some T.name
  loc : scope.names.lookup T.name = some .local
  qn : ∀ (L f : Addr) (c : Value), qualnameIn (envOfC qual scope L f c) T.name T.name = T.qual
  cl : ∀ (L f : Addr) (c : Value), closureFor T.scope (envOfC qual scope L f c) = pure (T.xs.zip (csF L))
  d0 : T.params.defaults = []
  k0 : T.params.kw_defaults = []
  an : ∀ (L f : Addr) (c : Value), annTrees T.params none (envOfC qual scope L f c) = []
  ndC : ∀ L : Addr, (csF L).Nodup
  len : ∀ L : Addr, (csF L).length = T.xs.length
  fv : ∀ (L f : Addr) (c : Value) (j : Nat) (a : Addr), (csF L)[j]? = some a → ∃ (x : Str) (m : Nat), (envOfC qual scope L f c).cells.lookup x = some a ∧ scope.names.lookup x = some .cell ∧ N[m]? = some x ∧ slots[j]? = some m ∧ m ≠ i
  db : (T.name == ("__debug__" : Str)) = false
  dn : (T.name == ("__classdict__" : Str)) = false
/-- what a maker's end wants: the promise for every new object -/
def Made (H : Hp) (Pt : Addr) (pos : Pos) (T : CloT) (slots : List Nat) (σ : St) (Q : VK) : Prop :=
  TabAt H Pt pos T.qual ∧ ∃ fvs : List V, (∀ j m : Nat, slots[j]? = some m → ∃ v, σ[m]? = some (some v) ∧ fvs[j]? = some v) ∧ fvs.length = T.xs.length ∧
    ∀ (fi : Addr) (cs : List Addr) (H2 : Hp), H fi = none → (∀ a ∈ cs, H a = none) → (∀ b o, H b = some o → b ≠ Pt → H2 b = some o) → TabAt H2 Pt pos T.qual → CloAt H2 fi T cs fvs → Q (.ref fi) H2
section
variable {P : Program} {w : World} {K : PySem.W.Frag} {mg : Str → Option Value} {base : Heap} {x qual : Str} {st : Stmt} {f c Pt : Addr} {fd : FuncData} {N ps : List Str} {k i : Nat} {sp : Sp} {T : CloT} {slots : List Nat} {csF : Addr → List Addr} {pos p1 p2 : Pos}
theorem made_run {A : Around} {outer : List Env} {s s1 : Shared} {H H1 : Hp} {Q : VK} {E : XK} {σ : St} (M : MkOk N qual (defScope st) T i slots csF) (bm : BMain mg base) (C : CodeHd base c Pt) (I : Inv (cxOf CX0 P w K mg base N qual (defScope st) f (.ref c) A outer s H E) [] σ H1 s1) (h : Made H1 Pt pos T slots σ Q) :
    wpAny (model P w) (A.deeper (envOfC qual (defScope st) s.heap.objs.size f (.ref c))) (execs [.FunctionDef T.name T.params T.body [] none [] T.scope none T.name pos, .Return (some (.Name T.name p1)) p2] (envOfC qual (defScope st) s.heap.objs.size f (.ref c)))
      (fun fl s' => ∃ u, fl = .ret u ∧ CE outer P w H s Q u s') (cxOf CX0 P w K mg base N qual (defScope st) f (.ref c) A outer s H E).xe s1 := by
  obtain ⟨hT, fvs, h1, h2, h3⟩ := h
  refine def_ret (cs := csF s.heap.objs.size) (fvs := fvs) I bm C hT M.nd M.hi M.loc (M.qn _ _ _) (M.cl _ _ _) M.d0 M.k0 (M.an _ _ _) (M.ndC _) (M.len _) h2 (fun j a e => ?_) (fun fi H2 n1 n2 n3 n4 n5 => h3 fi _ H2 n1 n2 n3 n4 n5) M.db M.dn
  obtain ⟨y, m, e1, e2, e3, e4, e5⟩ := M.fv s.heap.objs.size f (.ref c) j a e
  obtain ⟨v, e6, e7⟩ := h1 j m e4
  exact ⟨y, m, v, e1, e2, e3, e6, e7, e5⟩
theorem Fun.maker1 {st0 : Stmt} (F : Fun K x qual st f fd) (S : FnScope N ps (defScope st)) (M : MkOk N qual (defScope st) T i slots csF) (bm : BMain mg base) (hcode : fd.code = .ref c) (C : CodeHd base c Pt) (len : ∀ vs H Q E, sp vs H Q E → vs.length = ps.length)
    (hb : defBody st = [st0, .FunctionDef T.name T.params T.body [] none [] T.scope none T.name pos, .Return (some (.Name T.name p1)) p2])
    (h : ∀ (cdv : Value) (A : Around) (outer : List Env) (s : Shared) (H : Hp) (vs : List V) (Q : VK) (E : XK), Room k (A.deeper (envOfC qual (defScope st) s.heap.objs.size f cdv)) → sp vs H Q E →
      ∃ t, PS (cxOf CX0 P w K mg base N qual (defScope st) f cdv A outer s H E).nox st0 t ∧ t { nx := fun σ H' => Made H' Pt pos T slots σ Q, rt := fun _ _ => False } (start N vs) H) : FnOk P w K mg base CX0 (k + 1) f fd ps sp := by
  obtain ⟨oc, od, kV, doc, pm, an, cdv, ct, osl, rfl, lk, hcd⟩ := F.ex
  obtain rfl : cdv = .ref c := hcode
  refine fn_raw lk hcd S len fun A outer s H vs Q E s1 hr hsp I => ?_
  rw [hb]
  obtain ⟨t, h1, h2⟩ := h _ A outer s H vs Q E hr hsp
  refine wpAny_execs_cons (wpAny_mono (h1 [] s1 (start N vs) H _ (I.wish _) h2) (fun fl s2 q => ?_) fun _ _ z => False.elim z)
  cases fl with
  | next =>
    obtain ⟨σ, H1, I1, q⟩ := q
    exact made_run M bm C I1.unwish q
  | ret u => obtain ⟨_, _, _, _, _, z⟩ := q; exact False.elim z
  | brk => obtain ⟨_, _, _, z⟩ := q; exact False.elim z
  | cont => obtain ⟨_, _, _, z⟩ := q; exact False.elim z
/-- the inner def's promise, from its body -/
theorem clo_ok {sp : Addr → Sp} (S : CloScope N T) (hb : ∀ (cl : List (Str × Addr)) (doc pm cd ctv : Value) (us : List Value), us.length = T.ps.length → bindArgs (fnX T.name T.qual T.params T.body T.scope cl .none .none doc pm none cd ctv) ⟨us, []⟩ = pure (T.ps.zip us))
    (h : ∀ (f : Addr) (vs : List V) (H : Hp) (Q : VK), sp f vs H Q E0 → vs.length = T.ps.length ∧ ∃ cs fvs, CloAt H f T cs fvs ∧
      ∀ (cd : Addr) (A : Around) (outer : List Env) (s : Shared), Room k (A.deeper (envX T.qual T.scope s.heap.objs.size f (.ref cd) (T.xs.zip cs))) → ∃ t, PSs (cxClo P w K mg base N T.qual T.scope f (.ref cd) (T.xs.zip cs) A outer s (hide H cs)) T.body t ∧ t { nx := fun _ H' => Q .non (over H cs H'), rt := fun v H' => Q v (over H cs H') } (start N (vs ++ fvs)) (hide H cs)) :
    CloOk P w K mg base (k + 1) sp := by
  intro f A outer s H us vs Q hr e0 r hsp
  obtain ⟨hl, cs, fvs, ca, hbody⟩ := h f vs H Q hsp
  exact clo_run S hr e0 ca (fun cl doc pm cd ctv => .of_eq (hb cl doc pm cd ctv us (by rw [← r.length]; exact hl))) r hl fun cd hr' => hbody cd A outer s hr'
end
theorem tab0 {H : Hp} {P : Addr} {pos : Pos} {qual : Str} (h : H P = some (.tbl #[])) : TabAt H P pos qual := ⟨#[], h, trivial, .inl rfl⟩
theorem tabIn_of {K : PySem.W.Frag} {x : Str} {f c P : Addr} {oc to : Value} {od td : Option Addr} {fd : FuncData} {osl tsl : Array (Option Value)} {vs : Array Value} (a : nsIn K mainGlobals x = some (some (.ref f))) (l : K.lookup f = some ⟨oc, od, .func fd, osl⟩) (hc : fd.code = .ref c)
    (t : K.lookup c = some ⟨to, td, .fields vs, tsl⟩) (p : vs[11]? = some (.ref P)) : tabIn K x = some (c, P) := by
  unfold tabIn
  simp only [a, l, hc, t, p]
end L2

set_option Elab.async false
set_option linter.all false
set_option maxRecDepth 100000
set_option maxHeartbeats 4000000
namespace Tw
/-! heights, rows that rise, rows that are trees: the plain mathematics -/
theorem isBits_rep {v : Int} (h : v = 0 ∨ v = 1) (n : Nat) : IsBits (List.replicate n v) := fun b hb => by
  rw [List.eq_of_mem_replicate hb]
  exact h
/-- a tree's row -/
def Tree (ns : List Int) : Prop := 2 ≤ ns.length ∧ ht ns ns.length = 0 ∧ ∀ k, 0 < k → k < ns.length → 0 < ht ns k
end Tw

set_option Elab.async false
set_option linter.all false
set_option maxRecDepth 100000
set_option maxHeartbeats 4000000
namespace Tw
/-! heaps: sizes, covers: the plain mathematics -/
/-- S is the least of 1, 2, 4, .. that is not less than n -/
def IsSz (n S : Nat) : Prop := ∃ h, S = 2 ^ h ∧ n ≤ S ∧ ∀ j, j < h → 2 ^ j < n
theorem IsSz.pos {n S : Nat} (a : IsSz n S) : 1 ≤ S := by
  obtain ⟨h, rfl, _⟩ := a
  exact Nat.one_le_two_pow
theorem IsSz.le {n S : Nat} (a : IsSz n S) (h : n ≤ 4096) : S ≤ 4096 := by
  obtain ⟨k, rfl, k1, k2⟩ := a
  rcases Nat.lt_or_ge 12 k with q | q
  · have := k2 12 q
    omega
  · exact Nat.le_trans (Nat.pow_le_pow_right (by decide) q) (by decide)
/-- what a node of a cover is: n stands e steps above the places; all counted from S on -/
def NodeOk (S st sp n e : Nat) : Prop := 1 ≤ n ∧ S ≤ n * 2 ^ e ∧ (n + 1) * 2 ^ e ≤ S + sp ∧ (1 < n → S ≤ n / 2 * 2 ^ (e + 1) ∧ (n / 2 + 1) * 2 ^ (e + 1) ≤ 2 * S ∧ (n / 2 * 2 ^ (e + 1) < S + st ∨ S + sp < (n / 2 + 1) * 2 ^ (e + 1)))
/-- the nodes cover from x up to y -/
def Chain (S st sp : Nat) : List Nat → Nat → Nat → Prop
  | [], x, y => x = y
  | n :: r, x, y => ∃ e, n * 2 ^ e = x ∧ NodeOk S st sp n e ∧ Chain S st sp r ((n + 1) * 2 ^ e) y
/-- the walk up: e steps done -/
structure Cov (S st sp e low high : Nat) (ls rs : List Nat) : Prop where
  lo1 : S + st ≤ low * 2 ^ e
  lo2 : low * 2 ^ e < S + st + 2 ^ e
  hi1 : high * 2 ^ e ≤ S + sp
  hi2 : S + sp < high * 2 ^ e + 2 ^ e
  le : low ≤ high
  left : Chain S st sp ls (S + st) (low * 2 ^ e)
  right : Chain S st sp rs.reverse (high * 2 ^ e) (S + sp)
end Tw
namespace Tw
/-- what the walk up gives, with so many steps left at most -/
def covW : Nat → Nat → Nat → List Nat → List Nat → List Nat
  | 0, _, _, ls, rs => ls ++ rs.reverse
  | f + 1, low, high, ls, rs => if low < high then covW f ((low + low % 2) / 2) ((high - high % 2) / 2) (if low % 2 = 1 then ls ++ [low] else ls) (if high % 2 = 1 then rs ++ [high - 1] else rs) else ls ++ rs.reverse
/-- the cover -/
def cover (S st sp : Nat) : List Nat := covW (sp - st) (S + st) (S + sp) [] []
end Tw

set_option Elab.async false
set_option linter.all false
set_option maxRecDepth 100000
set_option maxHeartbeats 4000000
namespace PySem
open PyProof.Rows
namespace F
end F
section
variable {prog : Program} {w : World} {A : Around} {E : Value → Shared → Prop} {s : Shared}
end
end PySem
namespace L2
open PySem PySem.Spec PyProof.Rows
section
variable {X : Cx} {tg : Expr}
theorem rngDn (a b : Nat) : Builtin.Range.rangeSize a b (-1) = ((a - b : Nat) : Int) := by
  unfold Builtin.Range.rangeSize
  rw [if_neg (by decide), show (- -1 : Int) = 1 from rfl, Int.ediv_one]
  split <;> omega
theorem rngSmallDn {a b : Nat} (ha : a < 536870912) (hb : b < 536870912) : Builtin.Range.small a b (-1) = true := by
  unfold Builtin.Range.small Builtin.Range.rangeFitsLong
  rw [rngDn]
  have e : (2 : Int) ^ 63 = 9223372036854775808 := by decide
  rw [e, if_neg (by decide)]
  refine dand (dand (dand (dand (dand (decide_eq_true ?_) (decide_eq_true ?_)) (dand (decide_eq_true ?_) (decide_eq_true ?_))) (by decide)) (dand (decide_eq_true ?_) (decide_eq_true ?_))) ?_
  · omega
  · omega
  · omega
  · omega
  · omega
  · omega
  · rw [Bool.or_eq_true]
    exact .inr (dand (decide_eq_true (by omega)) (decide_eq_true (by omega)))
/-- range(a, b, -1) -/
def iRngDn (ta : TA) : TI := fun σ H R => ta σ H fun vs H1 => ∃ a b : Nat, vs = [.int (a : Int), .int (b : Int), .int (-1)] ∧ a < 536870912 ∧ b < 536870912 ∧ R (Its a (-1) (a - b)) H1
theorem pi_rangeDn {a b c : Expr} {ta : TA} {p pos : Pos} (hg : Gl X "range") (hm : X.mg "range" = none) (ha : PA X [a, b, c] ta) (hs : starEach [a, b, c] X.env = [(false, eval a X.env), (false, eval b X.env), (false, eval c X.env)] := by rfl)
    (hs2 : starEach [b, c] X.env = [(false, eval b X.env), (false, eval c X.env)] := by rfl) : PI X tg (.Call (.Name "range" p) [a, b, c] [] pos) (iRngDn ta) := by
  intro pins s σ H R I h
  refine Call_ (ld_blt I hg hm boot_range (PyProof.Rows.callWith_type1 (thn (ha pos pins s σ H _ I h) fun us s1 ⟨vs, H1, I1, r1, q1⟩ => ?_) (by rw [hs, hs2]) (by rw [hs2]; rfl)))
  obtain ⟨x, y, e, l0, l1, q⟩ := q1
  subst e
  cases r1 with
  | cons r rr =>
    cases rr with
    | cons r' rr =>
      cases rr with
      | cons r'' rr =>
        cases rr
        obtain ⟨t, rfl⟩ := r
        obtain ⟨t', rfl⟩ := r'
        obtain ⟨t'', rfl⟩ := r''
        refine call_range_3 (by decide) ?_ (.inl (PyProof.noPylong_small (by decide)))
        refine wpAny_pyIter_range (IsRange.new ..) (rngSmallDn l0 l1) ?_
        have I2 : Inv X pins σ H1 { s1 with heap := s1.heap.push { cls := .type "range", data := .fields #[.int x t, .int y t', .int (-1) t''] }, toks := s1.toks } := I1.kept fun b o e => Heap.get?_push_of_some _ e
        refine ⟨(s1.heap.push { cls := .type "range", data := .fields #[.int x t, .int y t', .int (-1) t''] }).objs.size, [(s1.heap.push { cls := .type "range", data := .fields #[.int x t, .int y t', .int (-1) t''] }).objs.size], _, _, H1, rfl,
          I2.kept (t' := s1.toks) fun b o e => Heap.get?_push_of_some _ e, turn_step _ x (-1) (x - y), ?_, fun b hb => ?_, q⟩
        · have e1 : (x : Int) + ((0 : Nat) : Int) * (-1) = x := by omega
          have e2 : ((x - y : Nat) : Int) - ((0 : Nat) : Int) = Builtin.Range.rangeSize x y (-1) := by rw [rngDn]; omega
          show IsRangeIter _ _ ((x : Int) + ((0 : Nat) : Int) * (-1)) (((x - y : Nat) : Int) - ((0 : Nat) : Int)) (-1)
          rw [e1, e2]
          exact Heap.get?_push_size _ rfl
        · have e : b = (s1.heap.push { cls := .type "range", data := .fields #[.int x t, .int y t', .int (-1) t''] }).objs.size := by simpa using hb
          subst e
          exact I2.fpOk (Nat.le_refl _) (I2.hok.fresh (Nat.le_refl _))
end
end L2

set_option Elab.async false
set_option linter.all false
set_option maxRecDepth 100000
set_option maxHeartbeats 4000000
namespace Tw
open L2
/-! heaps: what the nodes bear -/
def NI (x : V) : Prop := x = .non ∨ ∃ i, x = .int i
def lessV : V → V → V
  | .non, y => y
  | .int a, .int b => .int (if b < a then b else a)
  | x, _ => x
theorem lessV_non (y : V) : lessV .non y = y := by cases y <;> rfl
theorem lessV_ni {x y : V} (hx : NI x) (hy : NI y) : NI (lessV x y) := by
  rcases hx with rfl | ⟨i, rfl⟩
  · rw [lessV_non]
    exact hy
  · rcases hy with rfl | ⟨j, rfl⟩
    · exact .inr ⟨i, rfl⟩
    · exact .inr ⟨_, rfl⟩
def leafV (ns : List Int) (i : Nat) : V := match ns[i]? with | some c => .int c | none => .non
theorem leafV_some {ns : List Int} {i : Nat} {c : Int} (h : ns[i]? = some c) : leafV ns i = .int c := by
  unfold leafV
  rw [h]
theorem leafV_none {ns : List Int} {i : Nat} (h : ns.length ≤ i) : leafV ns i = .non := by
  unfold leafV
  rw [List.getElem?_eq_none h]
/-- the nodes from k on are right -/
structure HInv (ns : List Int) (S k : Nat) (xs : List V) : Prop where
  len : xs.length = 2 * S
  zero : xs[0]? = some .non
  leaf : ∀ i, i < S → xs[S + i]? = some (leafV ns i)
  node : ∀ j, k ≤ j → 1 ≤ j → j < S → ∃ x y, xs[2 * j]? = some x ∧ xs[2 * j + 1]? = some y ∧ xs[j]? = some (lessV x y)
  ni : ∀ x ∈ xs, NI x
theorem HInv.start {ns : List Int} {S : Nat} (h0 : 1 ≤ S) (hl : ns.length ≤ S) : HInv ns S S (List.replicate S V.non ++ ns.map V.int ++ List.replicate (S - ns.length) V.non) := by
  refine ⟨?_, ?_, fun i hi => ?_, fun j h1 h2 h3 => by omega, fun x hx => ?_⟩
  · simp only [List.length_append, List.length_replicate, List.length_map]
    omega
  · rw [List.append_assoc, List.getElem?_append_left (by rw [List.length_replicate]; omega), List.getElem?_replicate, if_pos (by omega)]
  · rw [List.append_assoc, List.getElem?_append_right (by rw [List.length_replicate]; omega), List.length_replicate, Nat.add_sub_cancel_left]
    by_cases h : i < ns.length
    · rw [List.getElem?_append_left (by rw [List.length_map]; exact h), List.getElem?_map, List.getElem?_eq_getElem h, leafV_some (List.getElem?_eq_getElem h)]
      rfl
    · rw [List.getElem?_append_right (by rw [List.length_map]; omega), List.length_map, List.getElem?_replicate, if_pos (by omega), leafV_none (by omega)]
  · rcases List.mem_append.mp hx with hx | hx
    · rcases List.mem_append.mp hx with hx | hx
      · exact .inl (List.eq_of_mem_replicate hx)
      · obtain ⟨i, _, rfl⟩ := List.mem_map.mp hx
        exact .inr ⟨i, rfl⟩
    · exact .inl (List.eq_of_mem_replicate hx)
theorem HInv.step {ns : List Int} {S k : Nat} {xs : List V} {x y : V} (h : HInv ns S (k + 1) xs) (h1 : 1 ≤ k) (hk : k < S) (hx : xs[2 * k]? = some x) (hy : xs[2 * k + 1]? = some y) : HInv ns S k (xs.set k (lessV x y)) := by
  have hl := h.len
  have oth : ∀ j, j ≠ k → (xs.set k (lessV x y))[j]? = xs[j]? := fun j hj => List.getElem?_set_ne (Ne.symm hj)
  refine ⟨by rw [List.length_set]; exact hl, ?_, fun i hi => ?_, fun j a b c => ?_, fun z hz => ?_⟩
  · rw [oth 0 (by omega)]
    exact h.zero
  · rw [oth (S + i) (by omega)]
    exact h.leaf i hi
  · by_cases e : j = k
    · subst e
      refine ⟨x, y, ?_, ?_, ?_⟩
      · rw [oth (2 * j) (by omega)]
        exact hx
      · rw [oth (2 * j + 1) (by omega)]
        exact hy
      · exact List.getElem?_set_self (by omega)
    · obtain ⟨u, v, e1, e2, e3⟩ := h.node j (by omega) b c
      refine ⟨u, v, ?_, ?_, ?_⟩
      · rw [oth (2 * j) (by omega)]
        exact e1
      · rw [oth (2 * j + 1) (by omega)]
        exact e2
      · rw [oth j e]
        exact e3
  · rcases List.mem_or_eq_of_mem_set hz with hz | rfl
    · exact h.ni z hz
    · exact lessV_ni (h.ni x (List.mem_of_getElem? hx)) (h.ni y (List.mem_of_getElem? hy))
theorem atI_V {xs : List V} {j : Nat} {x : V} (h : xs[j]? = some x) : atI xs (j : Int) = some x := atI_nat h
end Tw

set_option Elab.async false
set_option linter.all false
set_option maxRecDepth 100000
set_option maxHeartbeats 4000000
namespace Tw
/-! the tables of brackets: ones ahead, least heights of blocks -/
def ahd (ns : List Int) (n : Nat) : List Int := (List.range (n + 1)).map fun k => (ns.take (32 * k)).sum
theorem ahd_length (ns : List Int) (n : Nat) : (ahd ns n).length = n + 1 := by simp [ahd]
theorem ahd_get {ns : List Int} {n k : Nat} (h : k ≤ n) : (ahd ns n)[k]? = some (ns.take (32 * k)).sum := by
  have : k < n + 1 := by omega
  simp [ahd, this]
/-- the ones of the first k blocks -/
def onesTo (bs : List Int) (k : Nat) : Int := ((bs.take k).map fun b => ones b 32).sum
theorem onesTo_succ {bs : List Int} {k : Nat} {b : Int} (h : bs[k]? = some b) : onesTo bs (k + 1) = onesTo bs k + ones b 32 := by
  unfold onesTo
  rw [List.take_add_one, h]
  simp [List.sum_append]
def aheads (bs : List Int) (n : Nat) : List Int := (List.range (n + 1)).map (onesTo bs)
theorem aheads_length (bs : List Int) (n : Nat) : (aheads bs n).length = n + 1 := by simp [aheads]
theorem aheads_succ (bs : List Int) (n : Nat) : aheads bs (n + 1) = aheads bs n ++ [onesTo bs (n + 1)] := by
  unfold aheads
  rw [List.range_succ, List.map_append]
  rfl
theorem aheads_last (bs : List Int) (n : Nat) : aheads bs n = (List.range n).map (onesTo bs) ++ [onesTo bs n] := by
  unfold aheads
  rw [List.range_succ, List.map_append]
  rfl
theorem onesTo_packs {ns : List Int} (h : IsBits ns) : ∀ k : Nat, k ≤ many ns.length → onesTo (packs ns) k = (ns.take (32 * k)).sum
  | 0, _ => by simp [onesTo]
  | k + 1, hk => by
    rw [onesTo_succ (packs_get (by omega)), onesTo_packs h k (by omega), sum_block h k 32 (by omega)]
    rfl
theorem aheads_packs {ns : List Int} (h : IsBits ns) : aheads (packs ns) (packs ns).length = ahd ns (many ns.length) := by
  rw [packs_length]
  unfold aheads ahd
  refine List.map_congr_left fun k hk => ?_
  have := List.mem_range.mp hk
  exact onesTo_packs h k (by omega)
/-- how many bits block j has -/
def wide (n j : Nat) : Nat := min 32 (n - 32 * j)
/-- the least height of block j -/
def LowAt (ns : List Int) (j : Nat) (m : Int) : Prop := (∃ k, 32 * j < k ∧ k ≤ 32 * j + 32 ∧ k ≤ ns.length ∧ m = ht ns k) ∧ ∀ k, 32 * j < k → k ≤ 32 * j + 32 → k ≤ ns.length → m ≤ ht ns k
theorem LowAt.of {ns : List Int} (h : IsBits ns) {j : Nat} {M : Int} (hM : M ∈ nets (blkAt ns j) (wide ns.length j)) (hle : ∀ a ∈ nets (blkAt ns j) (wide ns.length j), M ≤ a) : LowAt ns j (ht ns (32 * j) + M) := by
  unfold wide at *
  constructor
  · obtain ⟨k, k1, k2, rfl⟩ := mem_nets.mp hM
    refine ⟨32 * j + k, by omega, by omega, by omega, ?_⟩
    rw [ht_block h j k (by omega)]
  · intro k k1 k2 k3
    have := hle _ (mem_nets.mpr ⟨k - 32 * j, by omega, by omega, rfl⟩)
    have e := ht_block h j (k - 32 * j) (by omega)
    rw [show 32 * j + (k - 32 * j) = k from by omega] at e
    omega
theorem LowAt.uniq {ns : List Int} {j : Nat} {m m' : Int} (h : LowAt ns j m) (h' : LowAt ns j m') : m = m' := by
  obtain ⟨⟨k, a1, a2, a3, rfl⟩, h2⟩ := h
  obtain ⟨⟨k', b1, b2, b3, rfl⟩, h3⟩ := h'
  have := h2 k' b1 b2 b3
  have := h3 k a1 a2 a3
  omega
structure Lows (ns ls : List Int) : Prop where
  len : ls.length = many ns.length
  low : ∀ j m, ls[j]? = some m → LowAt ns j m
theorem Lows.uniq {ns ls ms : List Int} (h : Lows ns ls) (h' : Lows ns ms) : ls = ms := by
  refine List.ext_getElem? fun j => ?_
  by_cases hj : j < many ns.length
  · have j1 : j < ls.length := by have := h.len; omega
    have j2 : j < ms.length := by have := h'.len; omega
    have e1 : ls[j]? = some ls[j] := List.getElem?_eq_getElem j1
    have e2 : ms[j]? = some ms[j] := List.getElem?_eq_getElem j2
    rw [e1, e2, (h.low _ _ e1).uniq (h'.low _ _ e2)]
  · rw [List.getElem?_eq_none (by have := h.len; omega), List.getElem?_eq_none (by have := h'.len; omega)]
theorem Tree.pos {ns : List Int} (t : Tree ns) {k : Nat} (h : k ≤ ns.length) : 0 ≤ ht ns k := by
  obtain ⟨t1, t2, t3⟩ := t
  rcases Nat.eq_zero_or_pos k with rfl | h0
  · rw [ht_zero]
    decide
  rcases Nat.lt_or_ge k ns.length with q | q
  · have := t3 k h0 q
    omega
  · have : k = ns.length := by omega
    rw [this, t2]
    decide
end Tw

set_option Elab.async false
set_option linter.all false
set_option maxRecDepth 100000
set_option maxHeartbeats 4000000
namespace L2
open PySem PySem.Spec PyProof.Rows
structure CompOk2 (X : Cx) (x z : Str) (caps : List (Str × Nat)) (scope : Scope) (cl : List (Str × Addr)) : Prop where
  o : CompOk X x caps scope cl
  hz : scope.names.lookup z = some .local
  nd : (x :: z :: caps.map (·.1)).Nodup
section
variable {X : Cx} {pins : List (Addr × Obj)} {σ : St} {H : Hp} {s : Shared}
/-- the state at the block's entry: the list to be filled stands at D, the block's names at C -/
theorem Inv.comp2 {x z : Str} {caps : List (Str × Nat)} {scope : Scope} {cl : List (Str × Addr)} {fp : List Addr} {h' : Heap} {tk : Nat} {m : Str → Option Value} {D C : Addr} (I : Inv X pins σ H s) (K0 : CompOk2 X x z caps scope cl) (hf : ∀ b ∈ fp, FpOk X pins H b)
    (hfs : ∀ b ∈ fp, b < s.heap.objs.size) (hD : s.heap.objs.size ≤ D) (hC : s.heap.objs.size ≤ C) (hDC : D ≠ C) (hk : ∀ b o, s.heap.get? b = some o → h'.get? b = some o) (hn : h'.Ns C m) (hL : h'.get? D = some { cls := .type "list", data := .seq #[] }) :
    Inv (cxComp X (x :: z :: caps.map (·.1)) scope cl C s H fp) [] (none :: none :: capV caps σ) (upd H D (.lst [])) { s with heap := h', toks := tk } := by
  have hnD := I.hok.fresh hD
  have hnC := I.hok.fresh hC
  have lkc : ∀ y c, (cxComp X (x :: z :: caps.map (·.1)) scope cl C s H fp).env.cells.lookup y = some c → X.env.cells.lookup y = some c := fun y c e => K0.o.cls y c e
  have clt : ∀ y c, X.env.cells.lookup y = some c → c < s.heap.objs.size := fun y c e => by
    obtain ⟨v, q⟩ := I.cell y c e
    exact q.lt
  have up : ∀ b u, H b = some u → upd H D (.lst []) b = some u := fun b u q => by rw [upd_ne (ne_of_none q hnD)]; exact q
  have ok : (cxComp X (x :: z :: caps.map (·.1)) scope cl C s H fp).Ok := by
    refine ⟨I.ok.mod, K0.o.kind, I.ok.glob, I.ok.blt, hC, fun y z c h1 h2 => I.ok.inj y z c (lkc y c h1) (lkc z c h2), fun y hy => K0.o.has y hy, fun y c h => absurd (show false = true from h) Bool.false_ne_true, I.ok.hd, I.ok.frames, .inl rfl, fun b hb => ?_, I.bs, Nat.le_trans I.ok.bsz I.sz, fun b o e hb => ?_, fun b hb hz => ?_, I.stack, I.stkFree⟩
    · obtain ⟨f0, f1, f2, f3, f4, f5⟩ := hf b hb
      exact ⟨Nat.ne_of_lt (Nat.lt_of_lt_of_le (hfs b hb) hC), fun y c e => f4 y c (lkc y c e)⟩
    · obtain ⟨f0, f1, f2, f3, f4, f5⟩ := hf b hb
      rcases f3 with z | z
      · exact I.ok.noex b o e z
      · exact absurd (Nat.lt_of_lt_of_le (Nat.lt_of_lt_of_le (Heap.lt_size e) I.ok.bsz) z) (Nat.lt_irrefl _)
    · obtain ⟨f0, f1, f2, f3, f4, f5⟩ := hf b hb
      rcases List.mem_cons.mp (I.stkSub b hz) with z | z
      · exact f1 z
      · exact f2 z
  refine ⟨ok, rfl, I.bare, ?_, ⟨m, hn, fun i y v e1 e2 e3 => ?_⟩, fun y c e => ?_, ?_, fun y c e => ?_, fun p hp => absurd (show p ∈ ([] : List (Addr × Obj)) from hp) (by simp), ?_, ?_⟩
  · exact Un.laid hk hD hnD
  · cases i with
    | zero => cases e2
    | succ i =>
     cases i with
     | zero => cases e2
     | succ i =>
      have e1' : (caps.map (·.1))[i]? = some y := e1
      have e2' : (capV caps σ)[i]? = some (some v) := e2
      rw [List.getElem?_map] at e1'
      unfold capV at e2'
      rw [List.getElem?_map] at e2'
      cases ec : caps[i]? with
      | none => rw [ec] at e1'; cases e1'
      | some p =>
        rw [ec] at e1' e2'
        obtain ⟨y', j⟩ := p
        have ey : y' = y := Option.some.inj e1'
        subst ey
        have ev : (σ[j]?).getD none = some v := Option.some.inj e2'
        have ev' : σ[j]? = some (some v) := by
          cases q : σ[j]? with
          | none => rw [q] at ev; cases ev
          | some w => rw [q] at ev; exact congrArg some ev
        obtain ⟨c1, c2, c3⟩ := K0.o.cap y' j (List.mem_of_getElem? ec)
        obtain ⟨m0, hn0, hl⟩ := I.loc
        obtain ⟨u, r, l⟩ := hl j y' v c1 ev' (by rcases c2 with z | z; exact .inr (.inl z); exact .inr (.inr z))
        refine ⟨u, r, .inr ⟨c3, ?_⟩⟩
        rcases l with ⟨k, _⟩ | ⟨k, c, ec, z⟩
        · have k' : X.env.scope.names.lookup y' = some .local := k
          rcases c2 with z | z
          · rw [z] at k'; cases k'
          · rw [z] at k'; cases k'
        · obtain ⟨c', hc'⟩ := K0.o.has y' c3
          have e4 := K0.o.cls y' c' hc'
          rw [ec] at e4
          cases e4
          obtain ⟨o, ho, hd⟩ := z
          exact ⟨c, hc', o, hk _ _ ho, hd⟩
  · obtain ⟨v, o, ho, hd⟩ := I.cell y c (lkc y c e)
    exact ⟨v, o, hk _ _ ho, hd⟩
  · show upd H D (.lst []) C = none
    rw [upd_ne (Ne.symm hDC)]
    exact hnC
  · have hlt := clt y c (lkc y c e)
    rw [upd_ne (Nat.ne_of_lt (Nat.lt_of_lt_of_le hlt hD))]
    exact I.freeC y c (lkc y c e)
  · exact I.hok.laid hk hD ⟨Nat.zero_le _, [], _, .nil, hL⟩
  · show (none :: none :: capV caps σ).length = (x :: z :: caps.map (·.1)).length
    simp [capV_length]
/-- the reading of a comprehension with two names -/
def rdComp2 (K : PySem.W.Frag) (J : It) (cap : St) (te : TE) (Qf : Addr → Hp → Prop) (H : Hp) : Prop :=
  ∀ D, H D = none → ∃ W : Nat → Nat → List V → Hp → Prop, (∃ m, W 0 m [] (upd H D (.lst []))) ∧ ∀ i m ys H1, W i m ys H1 →
    (J.stop i H1 ∧ Qf D H1) ∨ (J.go i H1 ∧ ∀ v H2, J.yld i H1 v H2 → ∃ ta v1 v2, v = .ref ta ∧ SqT K H2 ta [v1, v2] ∧
      te (some v1 :: some v2 :: cap) H2 fun y H4 => H4 D = some (.lst ys) ∧ ys.length < sizeLine ∧ ∃ m', m' < m ∧ W (i + 1) m' (ys ++ [y]) (upd H4 D (.lst (ys ++ [y]))))
theorem comp_core2 {x z : Str} {px pz tp pos : Pos} {tx : Nat} {caps : List (Str × Nat)} {scope : Scope} {cl : List (Str × Addr)} {elt iter : Expr} {J : It} {fp : List Addr} {it : Addr} {tn : Nat → Heap → Prop} {te : TE} {Qf : Addr → Hp → Prop}
    {RR : Value → Addr → Result → Shared → Prop} {E : Value → Shared → Prop} (I : Inv X pins σ H s) (hc : X.calm = true) (K0 : CompOk2 X x z caps scope cl) (T : Turn X.prog X.w X.K (.Tuple [.Name x px, .Name z pz] tx tp) J fp it tn) (st : tn 0 s.heap) (hf : ∀ b ∈ fp, FpOk X pins H b)
    (he : ∀ C s1 H1 fp1, PE (cxComp X (x :: z :: caps.map (·.1)) scope cl C s1 H1 fp1) elt te) (rd : rdComp2 X.K J (capV caps σ) te Qf H)
    (hRR : ∀ D C s' H' m, Inv X pins σ H' s' → s'.heap.Ns C m → FpOk X pins H' C → Qf D H' → RR (.ref D) C (.ok .next) s') :
    wpAny (model X.prog X.w) X.A (newList []) (fun acc s3 => wpAny (model X.prog X.w) X.A (newFunctionEnv scope X.env.globals cl [] X.env.qual none .none (some X.env)) (fun cenv s4 =>
      codeAny (model X.prog X.w) X.A (.compStart (.ListComp elt [⟨.Tuple [.Name x px, .Name z pz] tx tp, iter, [], 0⟩] scope pos) 0 (.ref it) acc { cenv with scope := relabel scope X.env }) (RR acc cenv.locals) s4) E s3) E s := by
  have hfs : ∀ b ∈ fp, b < s.heap.objs.size := fun b hb => by
    obtain ⟨o, e, _⟩ := T.obj _ _ st b hb
    exact Heap.lt_size e
  refine wpAny_newObj_type (wpAny_newFunctionEnv K0.o.nocell (by intro y hy; simp at hy) (fun h1 hn1 hb1 => ?_) K0.o.kind)
  dsimp only at hn1 hb1 ⊢
  obtain ⟨D, eD⟩ : ∃ D : Nat, D = s.heap.objs.size := ⟨_, rfl⟩
  obtain ⟨H2, eH2⟩ : ∃ g, g = s.heap.push { cls := .type "list", dict := none, data := .seq ([] : List Value).toArray } := ⟨_, rfl⟩
  rw [← eH2] at hn1 hb1 ⊢
  rw [← eD]
  have hC : H2.objs.size = D + 1 := by rw [eH2, Heap.size_push, eD]
  have hle : s.heap.objs.size ≤ H2.objs.size := by rw [hC, eD]; exact Nat.le_succ _
  have hDC : D ≠ H2.objs.size := by rw [hC]; exact Nat.ne_of_lt (Nat.lt_succ_self _)
  have hk : ∀ b o, s.heap.get? b = some o → h1.get? b = some o := fun b o e => by
    refine hb1.extBut b o (Nat.ne_of_lt (Nat.lt_of_lt_of_le (Heap.lt_size e) hle)) (Heap.get?_push_of_some _ ?_)
    rw [eH2]
    exact Heap.get?_push_of_some _ e
  have hL : h1.get? D = some { cls := .type "list", data := .seq #[] } := by
    refine hb1.extBut D _ (by omega) (Heap.get?_push_of_some _ ?_)
    rw [eH2, eD]
    exact Heap.get?_push_size _ rfl
  have st1 : tn 0 h1 := T.keep _ _ _ st fun b _ o e => hk b o e
  obtain ⟨W, ⟨m0, w0⟩, turn⟩ := rd D (I.hok.fresh (by omega))
  have loop : codeAny (model X.prog X.w) X.A (.compLoop (.ListComp elt [⟨.Tuple [.Name x px, .Name z pz] tx tp, iter, [], 0⟩] scope pos) 0 (.ref it) (.ref D) (compEnvC scope cl H2.objs.size X.env)) (RR (.ref D) H2.objs.size) { s with heap := h1, toks := s.toks + ([] : List (Str × Value)).length } := by
    refine LCp.codeAny_compLoop_pair (fun n s' => ∃ i ys sl sm H', Inv (cxComp X (x :: z :: caps.map (·.1)) scope cl H2.objs.size s H fp) [] (sl :: sm :: capV caps σ) H' s' ∧ tn i s'.heap ∧ (∀ b ∈ fp, H' b = none) ∧ W i n ys H') ?_ m0
      ⟨0, [], none, none, _, I.comp2 K0 hf hfs (by omega) (by omega) hDC hk hn1 hL, st1, fun b hb => ?_, w0⟩
    · rintro n s3 ⟨i, ys, sl, sm, H3, I3, st3, fr3, w3⟩
      have fpc : ∀ {H' : Hp} {pi : List (Addr × Obj)}, (∀ b ∈ fp, H' b = none) → (∀ p ∈ pi, p.1 ∉ fp) → ∀ b ∈ fp, FpOk (cxComp X (x :: z :: caps.map (·.1)) scope cl H2.objs.size s H fp) pi H' b := fun {H' pi} hn hp b hb => by
        obtain ⟨f0, f1, f2, f3, f4, f5⟩ := hf b hb
        refine ⟨hn b hb, ?_, fun z => ?_, .inl hb, fun y c e => f4 y c (K0.o.cls y c e), fun p hpp z => ?_⟩
        · exact Nat.ne_of_lt (Nat.lt_of_lt_of_le (hfs b hb) hle)
        · rcases List.mem_cons.mp (I.stkSub b z) with q | q
          · exact f1 q
          · exact f2 q
        · exact hp p (by simpa [cxComp] using hpp) (by rw [z]; exact hb)
      have clear : ∀ {α : Type} {t : Sem α} {Q : α → Shared → Prop} {E' : Value → Shared → Prop} {s : Shared}, wpAny (model X.prog X.w) X.A t Q (fun _ _ => False) s → wpAny (model X.prog X.w) X.A t Q E' s := fun h => wpAny_mono h (fun _ _ z => z) fun _ _ z => z.elim
      rcases turn i n ys H3 w3 with ⟨stop, qf⟩ | ⟨go, step⟩
      · refine thn (T.done (cxComp X (x :: z :: caps.map (·.1)) scope cl H2.objs.size s H fp) rfl rfl rfl hc i [] s3 _ H3 _ I3 (fpc fr3 (by simp)) st3 stop) fun r s4 ⟨hr, I4⟩ => ?_
        subst hr
        obtain ⟨m4, hn4, _⟩ := id I4.loc
        refine hRR D _ s4 H3 m4 (I.comped hf I4) hn4 ?_ qf
        have gC : s.heap.objs.size ≤ H2.objs.size := by omega
        exact I.fpOk gC I4.free
      · refine clear (thn (T.item (cxComp X (x :: z :: caps.map (·.1)) scope cl H2.objs.size s H fp) rfl rfl rfl hc i [] s3 _ H3 (fun _ _ => False) I3 (fpc fr3 (by simp)) st3 go) fun r s4 ⟨u, hr, h4⟩ => ?_)
        subst hr
        refine clear (thn h4 fun _ s5 ⟨v, H5, I5, r5, y5, st5, fr5⟩ => ?_)
        have I5' := I5.pinned (fpc fr5 (by simp)) (T.obj _ _ st5)
        obtain ⟨ta, v1, v2, ev, ht5, q6⟩ := step v _ y5
        subst ev
        have hg : PG (cxComp X (x :: z :: caps.map (·.1)) scope cl H2.objs.size s H fp) (.Tuple [.Name x px, .Name z pz] tx tp) (gTup X.K 2 (gCons (gName 0) (gCons (gName 1) gNil))) :=
          pg_tup hc (pgs_cons (pg_name (i := 0) K0.nd rfl (Or.inl (lookup_relabel_local K0.o.hx)) (Or.inr (lookup_relabel_local K0.o.hx))) (pgs_cons (pg_name (i := 1) K0.nd rfl (Or.inl (lookup_relabel_local K0.hz)) (Or.inr (lookup_relabel_local K0.hz))) pgs_nil))
        refine clear (thn (hg _ s5 (sl :: sm :: capV caps σ) H5 (.ref ta) u (fun σ2 H2 => σ2 = some v1 :: some v2 :: capV caps σ ∧ H2 = H5) I5' r5 ⟨ta, [v1, v2], rfl, ht5, rfl, v1, [v2], rfl, v2, [], rfl, rfl, (show _ ∧ _ from ⟨rfl, rfl⟩)⟩) fun _ s6 ⟨σ6, H6, I6, e6, e7⟩ => ?_)
        subst e6 e7
        have again : ∀ {H7 : Hp} {s7 : Shared} {sl sm : Option V} {zs : List V} {m' : Nat}, Inv (cxComp X (x :: z :: caps.map (·.1)) scope cl H2.objs.size s H fp) ([] ++ pinsAt fp s5.heap) (sl :: sm :: capV caps σ) H7 s7 → m' < n → W (i + 1) m' zs H7 →
            ∃ m, m < n ∧ ∃ i ys sl sm H', Inv (cxComp X (x :: z :: caps.map (·.1)) scope cl H2.objs.size s H fp) [] (sl :: sm :: capV caps σ) H' s7 ∧ tn i s7.heap ∧ (∀ b ∈ fp, H' b = none) ∧ W i m ys H' := fun {H7 s7 sl sm zs m'} I7 hm w7 => by
          refine ⟨m', hm, i + 1, zs, sl, sm, H7, I7.unpinned, T.keep _ _ _ st5 fun b hb o e => (I7.pin (b, o) (List.mem_append_right _ (List.mem_append_right _ (mem_pinsAt hb e)))).1, fun b hb => ?_, w7⟩
          obtain ⟨o, e, d⟩ := T.obj _ _ st5 b hb
          exact (I7.pin (b, o) (List.mem_append_right _ (List.mem_append_right _ (mem_pinsAt hb e)))).2.1
        refine clear (thn (he H2.objs.size s H fp _ s6 _ H6 _ I6 q6) fun xv s8 ⟨y, H8, I8, r8, hD8, hz8, m', hm, w8⟩ => ?_)
        refine clear (thn (mt_append _ s8 _ H8 (.ref D) [y] (.ref D) [xv] (fun _ H9 => H9 = upd H8 D (.lst (ys ++ [y]))) I8 rfl (.cons r8 .nil) ⟨D, ys, y, rfl, rfl, hD8, hz8, rfl⟩) fun _ s9 ⟨_, H9, I9, _, e9⟩ => ?_)
        subst e9
        exact again I9 hm w8
    · rw [upd_ne (by rw [eD]; exact Nat.ne_of_lt (hfs b hb))]
      exact (hf b hb).1
  exact codeAny_compStart_list loop (T.self _ 0 _ _ _ st1 loop)


def tComp2 (K : PySem.W.Frag) (wi : TI) (caps : List (Str × Nat)) (te : TE) : TE := fun σ H Q => wi σ H fun J H1 => rdComp2 K J (capV caps σ) te (fun D H' => Q (.ref D) H') H1
/-- name = a comprehension, on one line: the name is stored ahead of the letting go -/
theorem ps_setComp2 {i : Nat} {y x z : Str} {px pz tp py pos spos : Pos} {tx : Nat} {caps : List (Str × Nat)} {scope : Scope} {cl : List (Str × Addr)} {elt iter : Expr} {wi : TI} {te : TE} (hN : X.N.Nodup) (hiN : X.N[i]? = some y) (hy : X.env.scope.names.lookup y = some .local) (hc : X.calm = true)
    (K0 : CompOk2 X x z caps scope cl) (hi : PI X (.Tuple [.Name x px, .Name z pz] tx tp) iter wi)
    (he : ∀ C s1 H1 fp1, PE (cxComp X (x :: z :: caps.map (·.1)) scope cl C s1 H1 fp1) elt te)
    (hsw : swapsWith (.ListComp elt [⟨.Tuple [.Name x px, .Name z pz] tx tp, iter, [], 0⟩] scope pos) (some (.Name y py)) spos.line X.env = pure true := by rfl) (hs : ∀ x, foldedSetIterable iter X.env x = pure x := by intro _; rfl) :
    PS X (.Assign [.Name y py] (.ListComp elt [⟨.Tuple [.Name x px, .Name z pz] tx tp, iter, [], 0⟩] scope pos) spos) (tAsg (tComp2 X.K wi caps te) (gName i)) := by
  intro pins s σ H D0 I h
  rw [exec_Assign_Name_used _ _ _ _ hsw]
  refine wpAny_bind (wpAny_standAt (wpAny_bind ?_))
  show wpAny _ X.A (do let _ ← comprehension (.ListComp elt [⟨.Tuple [.Name x px, .Name z pz] tx tp, iter, [], 0⟩] scope pos) scope X.env _ (newList []) false (eval iter X.env) (some (assign (.Name y py) X.env))) _ _ s
  refine wpAny_bind (wpAny_mono (wpAny_comprehension_free (use := some (assign (.Name y py) X.env)) (Q := fun _ s' => SP X pins D0 .next s') rfl hs K0.o.clos K0.o.kind K0.o.names
    (thn (hi pins s σ H _ I h) fun v s1 h1 => thn h1 fun itv s2 h2 => ?_)) (fun _ s' hq => wpAny_pure (wpAny_pure hq)) fun _ _ e => e)
  obtain ⟨it, fp, tn, J, H2, e, I2, T, st2, f2, rd⟩ := h2
  subst e
  refine comp_core2 (RR := fun acc C => compPost (model X.prog X.w) X.A X.xe (some (assign (.Name y py) X.env)) (fun _ s' => SP X pins D0 .next s') acc C) I2 hc K0 T st2 f2 he rd ?_
  intro D C s' H' m I' hn fC q
  show wpAny _ X.A (assign (.Name y py) X.env (.ref D)) _ _ _
  refine wpAny_assign_Name (store_ok2 (v := .ref D) I' hN hiN (.inl hy) rfl (fun s'' I'' ch => ⟨m, ?_, fun h'' hs'' => ?_⟩) (.inr hy))
  · obtain ⟨a, sb, ha⟩ := ch
    refine hn.sameBut sb fun z => ?_
    rcases ha with ha | ha
    · exact fC.2.1 (z.trans ha)
    · exact fC.2.2.2.2.1 _ a ha z.symm
  · exact ⟨_, H', I''.turned (h' := h'') (t' := s''.toks) (fun b o hb e => hs''.extBut b o hb e) fC.1 fC.2.1 fC.2.2.2.1 fC.2.2.2.2.1 fC.2.2.2.2.2, q⟩
end
section
variable {X : Cx} {x : Str} {scope : Scope}
/-- it takes three names -/
theorem CompOk.three {y z u : Str} {j k l : Nat} {c d e : Addr} (hyz : y ≠ z) (hyu : y ≠ u) (hzu : z ≠ u) (hNy : X.N[j]? = some y) (hNz : X.N[k]? = some z) (hNu : X.N[l]? = some u)
    (hXy : X.env.scope.names.lookup y = some .cell ∨ X.env.scope.names.lookup y = some .free) (hXz : X.env.scope.names.lookup z = some .cell ∨ X.env.scope.names.lookup z = some .free) (hXu : X.env.scope.names.lookup u = some .cell ∨ X.env.scope.names.lookup u = some .free)
    (ecy : X.env.cells.lookup y = some c) (ecz : X.env.cells.lookup z = some d) (ecu : X.env.cells.lookup u = some e) (clos : closureFor scope X.env = pure [(y, c), (z, d), (u, e)])
    (hry : (relabel scope X.env).names.lookup y = some .cell ∨ (relabel scope X.env).names.lookup y = some .free) (hrz : (relabel scope X.env).names.lookup z = some .cell ∨ (relabel scope X.env).names.lookup z = some .free) (hru : (relabel scope X.env).names.lookup u = some .cell ∨ (relabel scope X.env).names.lookup u = some .free)
    (hfree : ∀ v ∈ scope.names, v.2 = .free → v.1 = y ∨ v.1 = z ∨ v.1 = u := by decide) (nocell : ∀ y ∈ scope.names, y.2 ≠ .cell := by decide) (kind : scope.kind = .function := by rfl) (names : ∀ y ∈ scope.names, y.2 = .local → scope.names.lookup y.1 = some .local := by decide)
    (hx : scope.names.lookup x = some .local := by rfl) (nd : [x, y, z, u].Nodup := by decide) : CompOk X x [(y, j), (z, k), (u, l)] scope [(y, c), (z, d), (u, e)] := by
  have zy : (z == y) = false := by simpa using Ne.symm hyz
  have uy : (u == y) = false := by simpa using Ne.symm hyu
  have uz : (u == z) = false := by simpa using Ne.symm hzu
  have ly : ([(y, c), (z, d), (u, e)] : List (Str × Addr)).lookup y = some c := by simp
  have lz : ([(y, c), (z, d), (u, e)] : List (Str × Addr)).lookup z = some d := by simp [List.lookup, zy]
  have lu : ([(y, c), (z, d), (u, e)] : List (Str × Addr)).lookup u = some e := by simp [List.lookup, uy, uz]
  refine ⟨kind, nocell, names, hx, clos, fun v f he => ?_, fun v hv => ?_, nd, fun v i h => ?_⟩
  · have hm := PySem.mem_of_lookup he
    rcases List.mem_cons.mp hm with q | q
    · cases q
      exact ecy
    rcases List.mem_cons.mp q with q | q
    · cases q
      exact ecz
    · cases List.mem_singleton.mp q
      exact ecu
  · have hv' : v = y ∨ v = z ∨ v = u := by
      rcases hv with hv | hv
      all_goals
        obtain ⟨k0, hm, e⟩ := relabel_back hv
        rcases e with e | ⟨e, _⟩
        · subst e
          first | exact absurd rfl (nocell _ hm) | exact hfree _ hm rfl
        · subst e
          exact hfree _ hm rfl
    rcases hv' with rfl | rfl | rfl
    · exact ⟨c, ly⟩
    · exact ⟨d, lz⟩
    · exact ⟨e, lu⟩
  · rcases List.mem_cons.mp h with q | q
    · cases q
      exact ⟨hNy, hXy, hry⟩
    rcases List.mem_cons.mp q with q | q
    · cases q
      exact ⟨hNz, hXz, hrz⟩
    · cases List.mem_singleton.mp q
      exact ⟨hNu, hXu, hru⟩
end
end L2
namespace Tw
open PySem L2
/-- over enumerate of a list of ints: the items are told by a relation -/
theorem comp_enumS {K : PySem.W.Frag} {a : Addr} {ns : List Int} {cap : L2.St} {te : TE} {Qf : Addr → Hp → Prop} {H : Hp} (R : Nat → Int → Prop) (hS : SqL K H a (ns.map V.int)) (hl : ns.length < sizeLine)
    (hte : ∀ (i : Nat) (b : Int) (H' : Hp) (Q : VK), ns[i]? = some b → Same H H' → (∀ m H2, R i m → Same H' H2 → Q (.int m) H2) → te (some (.int (i : Int)) :: some (.int b) :: cap) H' Q)
    (q : ∀ D H' (ls : List Int), H D = none → Same H H' → H' D = some (.lst (ls.map V.int)) → ls.length = ns.length → (∀ i m, ls[i]? = some m → R i m) → Qf D H') : rdComp2 K (Ite K a) cap te Qf H := by
  intro D hD
  refine ⟨fun i m ys H1 => m = ns.length - i ∧ i ≤ ns.length ∧ Same H H1 ∧ H1 D = some (.lst ys) ∧ ∃ ls : List Int, ys = ls.map V.int ∧ ls.length = i ∧ ∀ i m, ls[i]? = some m → R i m, ⟨_, rfl, Nat.zero_le _, same_new hD _, upd_same, [], rfl, rfl, fun i m e => by cases e⟩, ?_⟩
  rintro i m ys H1 ⟨rfl, hi, sm, hD1, ls, rfl, hll, hR⟩
  have hS1 := sm.seq hS
  by_cases hlt : i < ns.length
  · have hb : ns[i]? = some ns[i] := List.getElem?_eq_getElem hlt
    have hg : (ns.map V.int)[i]? = some (.int ns[i]) := by
      rw [List.getElem?_map, hb]
      rfl
    refine .inr ⟨⟨_, _, hS1, hg⟩, fun v H2 y => ?_⟩
    obtain ⟨p, y, hp, rfl, rfl, e⟩ := y
    have e := e _ hS1
    rw [hg] at e
    cases e
    have s2 := same_new hp (.tup [.int (i : Int), .int ns[i]])
    refine ⟨p, _, _, rfl, SqT.of upd_same, ?_⟩
    refine hte i ns[i] _ _ hb (sm.trans s2) fun m H2 hm s3 => ⟨s3 _ _ (s2 _ _ hD1), ?_, ns.length - (i + 1), by omega, rfl, hlt, ?_, upd_same, ls ++ [m], ?_, ?_, ?_⟩
    · rw [List.length_map]
      omega
    · exact same_set (sm.trans (s2.trans s3)) hD _
    · rw [List.map_append]
      rfl
    · rw [List.length_append, hll]
      rfl
    · intro j n e
      rcases Nat.lt_or_ge j ls.length with c | c
      · rw [List.getElem?_append_left c] at e
        exact hR j n e
      · rw [List.getElem?_append_right c] at e
        have : j - ls.length = 0 := by
          have := (List.getElem?_eq_some_iff.mp e).1
          simp at this
          omega
        rw [this] at e
        cases e
        have : j = i := by omega
        subst this
        exact hm
  · have e : i = ns.length := by omega
    exact .inl ⟨⟨_, hS1, by rw [List.length_map, e]; exact Nat.le_refl _⟩, q D H1 ls hD sm hD1 (by omega) hR⟩
theorem comp_mapM {K : PySem.W.Frag} {a : Addr} {ns : List Int} {cap : L2.St} {tt : TT} {te : TE} {Qf : Addr → Hp → Prop} {H : Hp} (g : Int → Int) (hS : SqL K H a (ns.map V.int)) (hl : ns.length < sizeLine)
    (htt : ∀ (z : Int) (H' : Hp) (Q : Bool → Hp → Prop), Q true H' → tt (some (.int z) :: cap) H' Q) (hte : ∀ (z : Int) (H' : Hp) (Q : VK), z ∈ ns → Same H H' → Q (.int (g z)) H' → te (some (.int z) :: cap) H' Q)
    (q : ∀ D, H D = none → Qf D (upd H D (.lst ((ns.map g).map V.int)))) : rdComp (Itl K a) cap tt te Qf H := by
  intro D hD
  refine ⟨fun i m ys H1 => m = ns.length - i ∧ i ≤ ns.length ∧ ys = ((ns.take i).map g).map V.int ∧ H1 = upd H D (.lst ys), ⟨_, rfl, Nat.zero_le _, rfl, rfl⟩, ?_⟩
  rintro i m ys H1 ⟨rfl, hi, rfl, rfl⟩
  have hS1 : SqL K (upd H D (.lst (((ns.take i).map g).map V.int))) a (ns.map V.int) := (same_new hD _).seq hS
  by_cases hlt : i < ns.length
  · have hg : (ns.map V.int)[i]? = some (.int ns[i]) := by
      rw [List.getElem?_map, List.getElem?_eq_getElem hlt]
      rfl
    refine .inr ⟨⟨_, _, hS1, hg⟩, fun v H2 y => ?_⟩
    obtain ⟨rfl, y⟩ := y
    have e := y _ hS1
    rw [hg] at e
    cases e
    refine htt _ _ _ ?_
    rw [if_pos rfl]
    refine hte _ _ _ (List.getElem_mem hlt) (same_new hD _) ⟨upd_same, ?_, ns.length - (i + 1), by omega, rfl, hlt, ?_, ?_⟩
    · rw [List.length_map, List.length_map, List.length_take]
      omega
    · rw [List.take_add_one, List.getElem?_eq_getElem hlt, List.map_append, List.map_append]
      rfl
    · rw [upd_upd]
  · have e : i = ns.length := by omega
    subst e
    rw [List.take_length]
    rw [List.take_length] at hS1
    exact .inl ⟨⟨_, hS1, by rw [List.length_map]; exact Nat.le_refl _⟩, q D hD⟩
end Tw

set_option Elab.async false
set_option linter.all false
set_option maxRecDepth 100000
set_option maxHeartbeats 4000000
namespace L2
open PySem PySem.Spec PyProof.Rows
/-! ### zip(xs, ys) of two lists, two names in the target -/
section
variable {X : Cx} {pins : List (Addr × Obj)} {σ : St} {H : Hp} {s : Shared} {h' : Heap}
theorem Inv.turnN {ch : List Addr} {p : Addr} {o : HO} {t' : Nat} (I : Inv X pins σ H s) (hf : ∀ b ∈ ch, FpOk X pins H b)
    (k : ∀ b u, b ∉ ch → s.heap.get? b = some u → h'.get? b = some u) (hp : s.heap.objs.size ≤ p)
    (new : ObjOk X.prog X.w (upd H p o) h' p o) : Inv X pins σ (upd H p o) { s with heap := h', toks := t' } := by
  have hn := I.hok.fresh hp
  have ne : ∀ b u, H b = some u → b ∉ ch := fun b u q z => by rw [(hf b z).1] at q; cases q
  have up : ∀ b u, H b = some u → upd H p o b = some u := fun b u q => by rw [upd_ne (ne_of_none q hn)]; exact q
  refine I.step (g' := s.gens) (d' := s.drawn) (ch := ch) (fun b hb => ?_) (fun b u _ _ hx q _ => k b u hx q) (fun b u _ _ hx q _ => ⟨u.slots, k b u hx q⟩)
    (fun b u _ q n => by rw [upd_ne (Nat.ne_of_lt (Nat.lt_of_lt_of_le (Heap.lt_size q) hp))]; exact n) (fun b u hx q => ⟨u, k b u hx q⟩)
    (fun b xs q => up _ _ q) (fun b ob u q => up _ _ q) (fun b ps q => ⟨#[], by rw [up _ _ q]; simp⟩) (fun m hm => ?_) (fun b u q => ?_) I.bare
  · have fe := hf b hb
    exact ⟨fe.2.2.2.1, fe.2.1, fe.2.2.2.2.1, fe.2.2.2.2.2⟩
  · obtain ⟨ob, es, ep, ho, r⟩ := hm
    exact ⟨ob, es, ep, k _ ob (fun z => (hf _ z).2.1 rfl) ho, r⟩
  · by_cases hb : b = p
    · subst hb
      rw [upd_same] at q
      cases q
      exact new
    · rw [upd_ne hb] at q
      refine (I.hok b u q).stay (fun c v hc r => k c v ?_ r) (fun c r => up _ _ r) fun c xs r => up _ _ r
      rcases hc with rfl | z
      · exact ne _ _ q
      · exact ne _ _ z
theorem Inv.turnedN {ch : List Addr} {t' : Nat} (I : Inv X pins σ H s) (hf : ∀ b ∈ ch, FpOk X pins H b)
    (k : ∀ b u, b ∉ ch → s.heap.get? b = some u → h'.get? b = some u) : Inv X pins σ H { s with heap := h', toks := t' } := by
  have ne : ∀ b u, H b = some u → b ∉ ch := fun b u q z => by rw [(hf b z).1] at q; cases q
  refine I.step (g' := s.gens) (d' := s.drawn) (ch := ch) (fun b hb => ?_) (fun b u _ _ hx q _ => k b u hx q) (fun b u _ _ hx q _ => ⟨u.slots, k b u hx q⟩)
    (fun _ _ _ _ n => n) (fun b u hx q => ⟨u, k b u hx q⟩)
    (fun _ _ q => q) (fun _ _ _ q => q) (fun b ps q => ⟨#[], by rw [q]; simp⟩) (fun m hm => ?_) (fun b u q => ?_) I.bare
  · have fe := hf b hb
    exact ⟨fe.2.2.2.1, fe.2.1, fe.2.2.2.2.1, fe.2.2.2.2.2⟩
  · obtain ⟨ob, es, ep, ho, r⟩ := hm
    exact ⟨ob, es, ep, k _ ob (fun z => (hf _ z).2.1 rfl) ho, r⟩
  · refine (I.hok b u q).stay (fun c v hc r => k c v ?_ r) (fun c r => r) fun c xs r => r
    rcases hc with rfl | z
    · exact ne _ _ q
    · exact ne _ _ z
end
/-- at turn i a new tuple of the two items -/
def Itz (K : PySem.W.Frag) (a b : Addr) : It :=
  ⟨fun i H => ∃ xs ys x y, SqL K H a xs ∧ SqL K H b ys ∧ xs[i]? = some x ∧ ys[i]? = some y,
   fun i H v H' => ∃ p x y, H p = none ∧ v = .ref p ∧ H' = upd H p (.tup [x, y]) ∧ (∀ xs, SqL K H a xs → xs[i]? = some x) ∧ ∀ ys, SqL K H b ys → ys[i]? = some y,
   fun i H => ∃ xs ys, SqL K H a xs ∧ SqL K H b ys ∧ (xs.length ≤ i ∨ ys.length ≤ i)⟩
structure Apart5 (z TI TO i1 i2 : Addr) : Prop where
  TIz : TI ≠ z
  TOz : TO ≠ z
  i1z : i1 ≠ z
  i2z : i2 ≠ z
  TITO : TI ≠ TO
  TIi1 : TI ≠ i1
  TIi2 : TI ≠ i2
  TOi1 : TO ≠ i1
  TOi2 : TO ≠ i2
  i12 : i1 ≠ i2
def zipTn (a b z TI TO i1 i2 : Addr) (i : Nat) (h : Heap) : Prop := IsZip h z TI TO .none ∧ IsPair h TI (.ref i1) (.ref i2) ∧ (∃ x y, IsPair h TO x y) ∧ h.IsListIter i1 a i ∧ h.IsListIter i2 b i
theorem ne_cls {h : Heap} {a b : Addr} {o u : Obj} (ho : h.get? a = some o) (hu : h.get? b = some u) (hc : o.cls ≠ u.cls) : a ≠ b := fun z => by
  subst z
  rw [ho] at hu
  cases hu
  exact hc rfl
theorem zipApart {h : Heap} {a b z TI TO i1 i2 : Addr} {i : Nat} {xs ys : Array Value} (D : Apart5 z TI TO i1 i2) (st : zipTn a b z TI TO i1 i2 i h) (h1 : h.IsList a xs) (h2 : h.IsList b ys) : ZipApart z TI TO i1 i2 a b := by
  obtain ⟨hz, hTI, ⟨x, y, hTO⟩, ⟨o1, e1, c1, _⟩, ⟨o2, e2, c2, _⟩⟩ := st
  obtain ⟨oa, ea, ca, _⟩ := h1
  obtain ⟨ob, eb, cb, _⟩ := h2
  exact ⟨D.TIz, D.TOz, D.i1z, D.i2z, D.TITO, D.TIi1, D.TIi2, D.TOi1, D.TOi2, D.i12,
    ne_cls ea hz (by rw [ca]; show Value.type "list" ≠ Value.type "zip"; decide), ne_cls ea hTO (by rw [ca]; show Value.type "list" ≠ Value.type "tuple"; decide), ne_cls ea e1 (by rw [ca, c1]; decide), ne_cls ea e2 (by rw [ca, c2]; decide),
    ne_cls eb hz (by rw [cb]; show Value.type "list" ≠ Value.type "zip"; decide), ne_cls eb hTO (by rw [cb]; show Value.type "list" ≠ Value.type "tuple"; decide), ne_cls eb e1 (by rw [cb, c1]; decide), ne_cls eb e2 (by rw [cb, c2]; decide)⟩
theorem turn_zip {P : Program} {w : World} {K : PySem.W.Frag} {elts : List Expr} {x1 : Nat} {tpos : Pos} (a b z TI TO i1 i2 : Addr) (D : Apart5 z TI TO i1 i2) :
    Turn P w K (.Tuple elts x1 tpos) (Itz K a b) [z, TI, TO, i1, i2] z (zipTn a b z TI TO i1 i2) where
  mem := by simp
  obj := fun i h st c hc => by
    obtain ⟨hz, hTI, ⟨x, y, hTO⟩, ⟨o1, e1, c1, d1⟩, ⟨o2, e2, c2, d2⟩⟩ := st
    have hc' : c = z ∨ c = TI ∨ c = TO ∨ c = i1 ∨ c = i2 := by simpa using hc
    rcases hc' with rfl | rfl | rfl | rfl | rfl
    · exact ⟨_, hz, fun v q => by cases q⟩
    · exact ⟨_, hTI, fun v q => by cases q⟩
    · exact ⟨_, hTO, fun v q => by cases q⟩
    · exact ⟨_, e1, fun v q => by rw [d1] at q; cases q⟩
    · exact ⟨_, e2, fun v q => by rw [d2] at q; cases q⟩
  keep := fun i h h' st k => by
    obtain ⟨hz, hTI, ⟨x, y, hTO⟩, h1, h2⟩ := st
    exact ⟨k z (by simp) _ hz, k TI (by simp) _ hTI, ⟨x, y, k TO (by simp) _ hTO⟩, h1.at fun o q => k i1 (by simp) o q, h2.at fun o q => k i2 (by simp) o q⟩
  item := by
    intro X hP hw hK hc i pins s σ H E I hf st hg
    subst hP hw hK
    obtain ⟨xs, ys, x, y, hq1, hq2, hx, hy⟩ := hg
    obtain ⟨is1, rv1, p1, hz1⟩ := I.list hq1
    obtain ⟨is2, rv2, p2, hz2⟩ := I.list hq2
    obtain ⟨u1, hu1, ru1⟩ := rv1.get hx
    obtain ⟨u2, hu2, ru2⟩ := rv2.get hy
    have D7 := zipApart D st p1.isList p2.isList
    obtain ⟨hz, hTI, ⟨v1, v2, hTO⟩, st1, st2⟩ := id st
    refine wpAny_pyNext_zip_item D7 hz hTI hTO st1 st2 p1.isList p2.isList (x := u1) (by simpa using hu1) (y := u2) (by simpa using hu2) fun h1 a1 a2 a3 a4 a5 a6 hk => ?_
    refine ⟨_, rfl, wpAny_letOwnedTupleGo_zip a1 fun h2 he2 hs2 => ?_⟩
    have lt : ∀ {c o}, s.heap.get? c = some o → s.heap.objs.size ≠ c := fun e => Nat.ne_of_gt (Heap.lt_size e)
    have g2 : h2.get? s.heap.objs.size = some { cls := .type "tuple", data := .seq #[u1, u2] } := (hs2.2 _ (lt hz)).trans a5
    have kk : ∀ b o, b ∉ [z, TI, TO, i1, i2] → s.heap.get? b = some o → h2.get? b = some o := fun b o hb q =>
      (hs2.2 b (fun e => hb (by simp [e]))).trans (hk b o (fun e => hb (by simp [e])) (fun e => hb (by simp [e])) (fun e => hb (by simp [e])) (fun e => hb (by simp [e])) q)
    have new : ObjOk X.prog X.w (upd H s.heap.objs.size (.tup [x, y])) h2 s.heap.objs.size (.tup [x, y]) :=
      ⟨(by show 2 ≤ sizeLine; decide), [u1, u2], .cons ru1 (.cons ru2 .nil), _, g2, rfl, _, rfl⟩
    have I2 := I.turnN (h' := h2) (t' := s.toks) hf kk (Nat.le_refl _) new
    have hn : H s.heap.objs.size = none := I.hok.fresh (Nat.le_refl _)
    refine ⟨.ref s.heap.objs.size, _, I2, rfl, ⟨_, x, y, hn, rfl, rfl, fun zs hq => by rw [I.list_inj hq hq1]; exact hx, fun zs hq => by rw [I.list_inj hq hq2]; exact hy⟩,
      ⟨he2, (hs2.2 _ D.TIz).trans (hk _ _ D.TIz D.TITO D.TIi1 D.TIi2 hTI), ⟨u1, u2, (hs2.2 _ D.TOz).trans a2⟩, a3.extBut hs2.extBut D.i1z, a4.extBut hs2.extBut D.i2z⟩, fun b hb => ?_⟩
    have hbs : b ≠ s.heap.objs.size := by
      obtain ⟨o1, e1, _⟩ := st1
      obtain ⟨o2, e2, _⟩ := st2
      have hc' : b = z ∨ b = TI ∨ b = TO ∨ b = i1 ∨ b = i2 := by simpa using hb
      rcases hc' with rfl | rfl | rfl | rfl | rfl
      · exact (lt hz).symm
      · exact (lt hTI).symm
      · exact (lt hTO).symm
      · exact (lt e1).symm
      · exact (lt e2).symm
    rw [upd_ne hbs]
    exact (hf b hb).1
  done := by
    intro X hP hw hK hc i pins s σ H E I hf st hg
    subst hP hw hK
    obtain ⟨xs, ys, hq1, hq2, hx⟩ := hg
    obtain ⟨is1, rv1, p1, hz1⟩ := I.list hq1
    obtain ⟨is2, rv2, p2, hz2⟩ := I.list hq2
    have D7 := zipApart D st p1.isList p2.isList
    obtain ⟨hz, hTI, ⟨v1, v2, hTO⟩, st1, st2⟩ := id st
    have l1 := rv1.length
    have l2 := rv2.length
    refine wpAny_pyNext_zip_end (I.ok.hd hc) D7 hz hTI hTO st1 st2 p1.isList p2.isList ?_ fun h' hk => ⟨rfl, I.turnedN (t' := s.toks) hf fun b o hb q => hk b o (fun e => hb (by simp [e])) (fun e => hb (by simp [e])) (fun e => hb (by simp [e])) (fun e => hb (by simp [e])) q⟩
    rcases hx with hx | hx
    · exact .inl (by simp; omega)
    · exact .inr (by simp; omega)
  self := fun _ _ _ _ _ st h => wpAny_pyIter_zip st.1 h
section
variable {X : Cx}
def iZip (K : PySem.W.Frag) (ta : TA) : TI := fun σ H R => ta σ H fun vs H1 => ∃ a b xs ys, vs = [.ref a, .ref b] ∧ SqL K H1 a xs ∧ SqL K H1 b ys ∧ R (Itz K a b) H1
theorem pi_zip {a b : Expr} {ta : TA} {p pos : Pos} {elts : List Expr} {x1 : Nat} {tpos : Pos} (hg : Gl X "zip") (hm : X.mg "zip" = none) (hv : bootBuiltins "zip" = some (.type "zip")) (ha : PA X [a, b] ta)
    (hs : starEach [a, b] X.env = [(false, eval a X.env), (false, eval b X.env)] := by rfl) (hs2 : starEach [b] X.env = [(false, eval b X.env)] := by rfl) :
    PI X (.Tuple elts x1 tpos) (.Call (.Name "zip" p) [a, b] [] pos) (iZip X.K ta) := by
  intro pins s σ H R I h
  refine Call_ (ld_blt I hg hm hv (PyProof.Rows.callWith_type1 (thn (ha pos pins s σ H _ I h) fun us s1 ⟨vs, H1, I1, r1, q1⟩ => ?_) (by rw [hs, hs2]) (by rw [hs2]; rfl)))
  obtain ⟨l1, l2, xs, ys, e, hq1, hq2, q⟩ := q1
  subst e
  cases r1 with
  | cons r rr =>
    cases rr with
    | cons r' rr =>
      cases rr
      cases r
      cases r'
      obtain ⟨is1, rv1, p1, hz1⟩ := I1.list hq1
      obtain ⟨is2, rv2, p2, hz2⟩ := I1.list hq2
      refine call_zip_2 p1.isList p2.isList fun h' hz hTI hTO hi1 hi2 hsz hk => ?_
      refine wpAny_pyIter_zip hz ?_
      have I2 : Inv X pins σ H1 { s1 with heap := h' } := I1.kept (t' := s1.toks) hk
      have D : Apart5 (s1.heap.objs.size + 4) (s1.heap.objs.size + 2) (s1.heap.objs.size + 3) s1.heap.objs.size (s1.heap.objs.size + 1) := by
        have k : ∀ n i j : Nat, i ≠ j → n + i ≠ n + j := fun n i j h => by omega
        exact ⟨k _ 2 4 (by decide), k _ 3 4 (by decide), k _ 0 4 (by decide), k _ 1 4 (by decide), k _ 2 3 (by decide), k _ 2 0 (by decide), k _ 2 1 (by decide), k _ 3 0 (by decide), k _ 3 1 (by decide), k _ 0 1 (by decide)⟩
      refine ⟨s1.heap.objs.size + 4, _, _, Itz X.K l1 l2, H1, rfl, I2, turn_zip l1 l2 _ _ _ _ _ D, ⟨hz, hTI, ⟨_, _, hTO⟩, hi1, hi2⟩, fun c hc => ?_, q⟩
      have hle : s1.heap.objs.size ≤ c := by
        have hc' : c = s1.heap.objs.size + 4 ∨ c = s1.heap.objs.size + 2 ∨ c = s1.heap.objs.size + 3 ∨ c = s1.heap.objs.size ∨ c = s1.heap.objs.size + 1 := by simpa using hc
        rcases hc' with rfl | rfl | rfl | rfl | rfl
        · exact Nat.le_add_right _ _
        · exact Nat.le_add_right _ _
        · exact Nat.le_add_right _ _
        · exact Nat.le_refl _
        · exact Nat.le_add_right _ _
      exact I1.fpOk hle (I1.hok.fresh hle)
end
/-- over zip of two lists that the body leaves as they are -/
theorem for_zip {K : PySem.W.Frag} {a b : Addr} {xs ys : List V} {g : TG} {tb : TS} {D : Ends} {σ : St} {H : Hp} (Pv : Nat → St → Hp → Prop) (h0 : Pv 0 σ H) (hl : ∀ i σ H, i ≤ min xs.length ys.length → Pv i σ H → SqL K H a xs ∧ SqL K H b ys)
    (hs : ∀ i x y σ H p, xs[i]? = some x → ys[i]? = some y → Pv i σ H → H p = none → g (.ref p) σ (upd H p (.tup [x, y])) fun σ2 H2 => tb { D with nx := Pv (i + 1), ct := Pv (i + 1), bk := D.nx } σ2 H2) (hd : ∀ σ H, Pv (min xs.length ys.length) σ H → D.nx σ H) :
    ∃ W : Nat → Nat → St → Hp → Prop, (∃ m, W 0 m σ H) ∧ ∀ i m σ H, W i m σ H →
      ((Itz K a b).stop i H ∧ D.nx σ H) ∨ ((Itz K a b).go i H ∧ ∃ N : St → Hp → Prop, (∀ σ' H', N σ' H' → ∃ m', m' < m ∧ W (i + 1) m' σ' H') ∧ ∀ x H', (Itz K a b).yld i H x H' → g x σ H' fun σ2 H2 => tb { D with nx := N, ct := N, bk := D.nx } σ2 H2) := by
  refine ⟨fun i m σ H => m = min xs.length ys.length - i ∧ i ≤ min xs.length ys.length ∧ Pv i σ H, ⟨min xs.length ys.length, rfl, Nat.zero_le _, h0⟩, ?_⟩
  rintro i m σ H ⟨rfl, hi, p⟩
  obtain ⟨q1, q2⟩ := hl i σ H hi p
  by_cases hlt : i < min xs.length ys.length
  · have k1 : i < xs.length := by omega
    have k2 : i < ys.length := by omega
    refine .inr ⟨⟨xs, ys, xs[i], ys[i], q1, q2, List.getElem?_eq_getElem k1, List.getElem?_eq_getElem k2⟩, Pv (i + 1), fun σ' H' p' => ⟨min xs.length ys.length - (i + 1), by omega, rfl, hlt, p'⟩, fun x H' y => ?_⟩
    obtain ⟨c, x, y, hn, e1, e2, hx, hy⟩ := y
    subst e1 e2
    exact hs i x y σ H c (hx xs q1) (hy ys q2) p hn
  · have e : i = min xs.length ys.length := by omega
    subst e
    exact .inl ⟨⟨xs, ys, q1, q2, by omega⟩, hd σ H p⟩
end L2

set_option Elab.async false
set_option linter.all false
set_option maxRecDepth 100000
set_option maxHeartbeats 4000000
namespace Tw
/-! depths of a tree's nodes, and its brackets -/
def brk : List Int → Int → List Int
  | [], u => List.replicate u.toNat 0
  | d :: r, u => List.replicate (u - d).toNat 0 ++ 1 :: brk r (d + 1)
/-- the depths that may come where u brackets are unclosed -/
def Dp : List Int → Int → Prop
  | [], u => 0 ≤ u
  | d :: r, u => 0 ≤ d ∧ d ≤ u ∧ Dp r (d + 1)
theorem Dp.pos : ∀ {l : List Int} {u : Int}, Dp l u → 0 ≤ u
  | [], _, h => h
  | _ :: _, _, h => Int.le_trans h.1 h.2.1
theorem brk_length : ∀ {l : List Int} {u : Int}, Dp l u → (brk l u).length = u.toNat + 2 * l.length
  | [], u, _ => by simp [brk]
  | d :: r, u, h => by
    have := brk_length h.2.2
    have h1 := h.1
    have h2 := h.2.1
    simp only [brk, List.length_append, List.length_replicate, List.length_cons, this]
    omega
theorem brk_step {l : List Int} {u x : Int} {t : List Int} (h : Dp l u) (e : brk l u = x :: t) :
    (x = 0 ∧ 1 ≤ u ∧ t = brk l (u - 1) ∧ Dp l (u - 1)) ∨ ∃ r, l = u :: r ∧ x = 1 ∧ t = brk r (u + 1) ∧ Dp r (u + 1) := by
  cases l with
  | nil =>
    have hu : 0 ≤ u := h
    rcases Int.lt_or_le 0 u with z | z
    · refine .inl ?_
      have e1 : u.toNat = (u - 1).toNat + 1 := by omega
      simp only [brk] at e ⊢
      rw [e1, List.replicate_succ] at e
      injection e with e2 e3
      exact ⟨e2.symm, z, e3.symm, show 0 ≤ u - 1 by omega⟩
    · have : u.toNat = 0 := by omega
      simp only [brk] at e
      rw [this] at e
      cases e
  | cons d r =>
    obtain ⟨h1, h2, h3⟩ := h
    rcases Int.lt_or_le d u with z | z
    · refine .inl ?_
      have e1 : (u - d).toNat = (u - 1 - d).toNat + 1 := by omega
      simp only [brk] at e ⊢
      rw [e1, List.replicate_succ, List.cons_append] at e
      injection e with e2 e3
      exact ⟨e2.symm, by omega, e3.symm, h1, by omega, h3⟩
    · have : u = d := by omega
      subst this
      refine .inr ⟨r, rfl, ?_⟩
      simp only [brk] at e
      rw [Int.sub_self] at e
      injection e with e2 e3
      exact ⟨e2.symm, e3.symm, h3⟩
theorem brk_nil {l : List Int} {u : Int} (h : Dp l u) (e : brk l u = []) : l = [] ∧ u = 0 := by
  have := brk_length h
  rw [e] at this
  have hp := h.pos
  cases l with
  | nil =>
    refine ⟨rfl, ?_⟩
    have : 0 = u.toNat + 2 * 0 := this
    omega
  | cons d r =>
    rw [List.length_cons] at this
    have : 0 = u.toNat + 2 * (r.length + 1) := this
    omega
/-- the depths of a tree's nodes -/
def GoodD (ds : List Int) : Prop := ds[0]? = some 0 ∧ ∀ i x y, ds[i]? = some x → ds[i + 1]? = some y → 1 ≤ y ∧ y ≤ x + 1
theorem dp_of : ∀ (r : List Int) (a : Int), (∀ (i : Nat) (x y : Int), (a :: r)[i]? = some x → (a :: r)[i + 1]? = some y → 1 ≤ y ∧ y ≤ x + 1) → 0 ≤ a → Dp r (a + 1)
  | [], a, _, ha => by show 0 ≤ a + 1; omega
  | d :: r, a, h, ha => by
    have h0 := h 0 a d rfl rfl
    exact ⟨by omega, h0.2, dp_of r d (fun i x y h1 h2 => h (i + 1) x y h1 h2) (by omega)⟩
theorem GoodD.dp {ds : List Int} (h : GoodD ds) : Dp ds 0 := by
  cases ds with
  | nil => exact absurd h.1 (by simp)
  | cons d r =>
    have : d = 0 := by
      have := h.1
      exact Option.some.inj this
    subst this
    exact ⟨by decide, by decide, dp_of r 0 h.2 (by decide)⟩
theorem GoodD.one {ds : List Int} (h : GoodD ds) {i : Nat} {d : Int} (hi : 0 < i) (hd : ds[i]? = some d) : 1 ≤ d := by
  obtain ⟨j, rfl⟩ : ∃ j, i = j + 1 := ⟨i - 1, by omega⟩
  have hl := (List.getElem?_eq_some_iff.mp hd).1
  have := h.2 j ds[j] d (List.getElem?_eq_getElem (by omega)) hd
  exact this.1
theorem GoodD.root : GoodD [0] := ⟨rfl, fun i x y _ h2 => by simp at h2⟩
theorem GoodD.snoc {ds : List Int} {a d : Int} (h : GoodD ds) (hl : ds[ds.length - 1]? = some a) (h1 : 1 ≤ d) (h2 : d ≤ a + 1) : GoodD (ds ++ [d]) := by
  have h0 : 0 < ds.length := by
    have := (List.getElem?_eq_some_iff.mp h.1).1
    exact this
  refine ⟨by rw [List.getElem?_append_left h0]; exact h.1, fun i x y e1 e2 => ?_⟩
  rcases Nat.lt_or_ge (i + 1) ds.length with z | z
  · rw [List.getElem?_append_left (by omega)] at e1
    rw [List.getElem?_append_left z] at e2
    exact h.2 i x y e1 e2
  · have hz := (List.getElem?_eq_some_iff.mp e2).1
    rw [List.length_append, List.length_singleton] at hz
    have ei : i = ds.length - 1 := by omega
    rw [List.getElem?_append_left (by omega), ei, hl] at e1
    rw [List.getElem?_append_right z, show i + 1 - ds.length = 0 from by omega] at e2
    have e2 : d = y := Option.some.inj e2
    have e1 : a = x := Option.some.inj e1
    subst e1 e2
    exact ⟨h1, h2⟩
end Tw

set_option Elab.async false
set_option linter.all false
set_option maxRecDepth 100000
set_option maxHeartbeats 4000000
namespace L2
open PySem PySem.Spec PyProof.Rows

/-! ### range(0, b, 8); a walk over a list or a tuple -/
section
variable {X : Cx} {tg : Expr}
/-- range(0, b, 8) -/
def iRng8 (ta : TA) : TI := fun σ H R => ta σ H fun vs H1 => ∃ b : Nat, vs = [.int 0, .int (b : Int), .int 8] ∧ b < 536870912 ∧ R (Its 0 8 ((b + 7) / 8)) H1
theorem rngSize8 (b : Nat) : Builtin.Range.rangeSize 0 b 8 = (((b + 7) / 8 : Nat) : Int) := by
  unfold Builtin.Range.rangeSize
  rw [if_pos (by decide)]
  split <;> omega
theorem rngSmall8 {b : Nat} (h : b < 536870912) : Builtin.Range.small 0 b 8 = true := by
  unfold Builtin.Range.small Builtin.Range.rangeFitsLong
  rw [rngSize8]
  generalize hn : (((b + 7) / 8 : Nat) : Int) = n
  have h1 : n ≤ 67108864 := by omega
  have h0 : 0 ≤ n := by omega
  have e : (2 : Int) ^ 63 = 9223372036854775808 := by decide
  rw [e, if_pos (by decide)]
  refine dand (dand (dand (dand (by decide) (dand (decide_eq_true ?_) (decide_eq_true ?_))) (by decide)) (dand (decide_eq_true ?_) (decide_eq_true ?_))) ?_
  · omega
  · omega
  · omega
  · omega
  · rw [Bool.or_eq_true]
    exact .inr (dand (decide_eq_true (by omega)) (decide_eq_true (by omega)))
theorem pi_range8 {a b c : Expr} {ta : TA} {p pos : Pos} (hg : Gl X "range") (hm : X.mg "range" = none) (ha : PA X [a, b, c] ta) (hs : starEach [a, b, c] X.env = [(false, eval a X.env), (false, eval b X.env), (false, eval c X.env)] := by rfl)
    (hs2 : starEach [b, c] X.env = [(false, eval b X.env), (false, eval c X.env)] := by rfl) : PI X tg (.Call (.Name "range" p) [a, b, c] [] pos) (iRng8 ta) := by
  intro pins s σ H R I h
  refine Call_ (ld_blt I hg hm boot_range (PyProof.Rows.callWith_type1 (thn (ha pos pins s σ H _ I h) fun us s1 ⟨vs, H1, I1, r1, q1⟩ => ?_) (by rw [hs, hs2]) (by rw [hs2]; rfl)))
  obtain ⟨y, e, l1, q⟩ := q1
  subst e
  cases r1 with
  | cons r rr =>
    cases rr with
    | cons r' rr =>
      cases rr with
      | cons r'' rr =>
        cases rr
        obtain ⟨t, rfl⟩ := r
        obtain ⟨t', rfl⟩ := r'
        obtain ⟨t'', rfl⟩ := r''
        refine call_range_3 (by decide) ?_ (.inl (PyProof.noPylong_small (by omega)))
        refine wpAny_pyIter_range (IsRange.new ..) (rngSmall8 l1) ?_
        have I2 : Inv X pins σ H1 { s1 with heap := s1.heap.push { cls := .type "range", data := .fields #[.int 0 t, .int y t', .int 8 t''] }, toks := s1.toks } := I1.kept fun b o e => Heap.get?_push_of_some _ e
        refine ⟨(s1.heap.push { cls := .type "range", data := .fields #[.int 0 t, .int y t', .int 8 t''] }).objs.size, [(s1.heap.push { cls := .type "range", data := .fields #[.int 0 t, .int y t', .int 8 t''] }).objs.size], _, _, H1, rfl,
          I2.kept (t' := s1.toks) fun b o e => Heap.get?_push_of_some _ e, turn_step _ 0 8 ((y + 7) / 8), ?_, fun b hb => ?_, q⟩
        · have e1 : (0 : Int) + ((0 : Nat) : Int) * 8 = 0 := by decide
          have e2 : (((y + 7) / 8 : Nat) : Int) - ((0 : Nat) : Int) = Builtin.Range.rangeSize 0 y 8 := by rw [rngSize8]; simp
          show IsRangeIter _ _ ((0 : Int) + ((0 : Nat) : Int) * 8) ((((y + 7) / 8 : Nat) : Int) - ((0 : Nat) : Int)) 8
          rw [e1, e2]
          exact Heap.get?_push_size _ rfl
        · have e : b = (s1.heap.push { cls := .type "range", data := .fields #[.int 0 t, .int y t', .int 8 t''] }).objs.size := by simpa using hb
          subst e
          exact I2.fpOk (Nat.le_refl _) (I2.hok.fresh (Nat.le_refl _))
/-- for x in xs, a list or a tuple -/
def iSeq (K : PySem.W.Frag) (tl : TE) : TI := fun σ H R => tl σ H fun x H1 => ∃ a, x = .ref a ∧ (((∃ xs, SqL K H1 a xs) ∧ R (Itl K a) H1) ∨ ((∃ xs, SqT K H1 a xs) ∧ R (Itt K a) H1))
theorem pi_seq {l : Expr} {tl : TE} (hl : PE X l tl) : PI X tg l (iSeq X.K tl) := by
  intro pins s σ H R I h
  refine thn (hl pins s σ H _ I h) fun v s1 ⟨x, H1, I1, r1, q1⟩ => ?_
  obtain ⟨a, e, q1⟩ := q1
  subst e
  cases r1
  rcases q1 with ⟨⟨xs, hq⟩, q⟩ | ⟨⟨xs, hq⟩, q⟩
  · obtain ⟨its, rv, p, hz⟩ := I1.list hq
    refine wpAny_pyIter_list p.isList ?_
    refine ⟨s1.heap.objs.size, [s1.heap.objs.size], _, _, H1, rfl, I1.kept (t' := s1.toks) fun b o e => Heap.get?_push_of_some _ e, turn_list a _, ⟨_, Heap.get?_push_size _ rfl, rfl, rfl⟩, fun b hb => ?_, q⟩
    have e : b = s1.heap.objs.size := by simpa using hb
    subst e
    exact I1.fpOk (Nat.le_refl _) (I1.hok.fresh (Nat.le_refl _))
  · obtain ⟨its, rv, p, hz⟩ := I1.tuple hq
    refine wpAny_pyIter_tuple (show s1.heap.IsTuple a its.toArray from p) ?_
    refine ⟨s1.heap.objs.size, [s1.heap.objs.size], _, _, H1, rfl, I1.kept (t' := s1.toks) fun b o e => Heap.get?_push_of_some _ e, turn_tuple a _, ⟨_, Heap.get?_push_size _ rfl, rfl, rfl⟩, fun b hb => ?_, q⟩
    have e : b = s1.heap.objs.size := by simpa using hb
    subst e
    exact I1.fpOk (Nat.le_refl _) (I1.hok.fresh (Nat.le_refl _))
end
end L2

set_option Elab.async false
set_option linter.all false
set_option maxRecDepth 100000
set_option maxHeartbeats 4000000
namespace L2
open PySem PySem.Spec PyProof.Rows

end L2

namespace L2
open PySem PySem.Spec PyProof.Rows

section
variable (P : Program) (w : World)
end

section
variable {P : Program} {w : World} {H H' : Hp} {h h' : Heap} {a : Addr} {o : HO}
end

section
variable {P : Program} {w : World} {H : Hp} {h h' : Heap} {x e : Addr} {o' : HO}
end

section
variable {fs fs' ex ex' : List Addr} {H H1 H2 : Hp} {h h1 h2 h' : Heap} {a x e : Addr} {o : HO}
end

end L2

namespace L2
open PySem PySem.Spec PyProof.Rows

section
variable {X : Cx} {pins : List (Addr × Obj)} {σ : List (Option V)} {H H' : Hp} {s : Shared} {h' : Heap}

end

end L2

namespace L2
open PySem PySem.Spec PyProof.Rows
section
variable {X : Cx}

variable {a b : Expr} {ta tb : TE} {pos : Pos}
variable {tA tB' : TT} {rest : List Expr}
end
end L2

namespace L2
open PySem PySem.Spec PyProof.Rows

section
variable {X : Cx} {pins : List (Addr × Obj)} {σ : St} {H : Hp} {s : Shared} {a : Addr} {xs ys : List V}
end

section
variable {X : Cx} {pins : List (Addr × Obj)} {σ : St} {H : Hp} {s : Shared} {E : Value → Shared → Prop}
end

section
variable {X : Cx} {st : Stmt} {rest : List Stmt} {t u : TS} {e : Expr} {te : TE} {pos : Pos}
end

section
variable {X : Cx} {pos : Pos}
end

section
variable {X : Cx} {pos : Pos}
end

end L2

namespace L2
open PySem PySem.Spec PyProof.Rows
section
variable {X : Cx} {tg : Expr}
end

end L2

namespace L2
open PySem PySem.Spec PyProof.Rows

section
variable {X : Cx} {a b c : Expr} {ta tb tc : TE} {pos : Pos}

end

section
variable {X : Cx} {a b c : Expr} {ta tb tc : TE} {pos : Pos}
end
end L2

namespace L2
open PySem PySem.Spec PyProof.Rows

section
variable {prog : Program} {w : World} {A : Around} {E : Value → Shared → Prop} {s : Shared} {K : PySem.W.Frag} {x dx C f : Addr} {mA : Str → Option Value} {name : Str} {v : Value}

end

section
variable {P : Program} {w : World} {H H' : Hp} {h h' : Heap} {a C dx : Addr} {fs fs' : List (Str × V)}
end

section
variable {X : Cx} {pins : List (Addr × Obj)} {σ : St} {H : Hp} {s : Shared} {a C dx : Addr} {fs : List (Str × V)} {f : Str} {v : V} {A : Around} {E : Value → Shared → Prop}

end

section
variable {X : Cx} {o e value : Expr} {f : Str} {pos pos' tpos : Pos} {ta tv : TE}
end

section
variable {X : Cx} {pins : List (Addr × Obj)} {σ : St} {H : Hp} {s : Shared} {A : Around} {E : Value → Shared → Prop} {Q : Value → Shared → Prop} {c : Value} {b : Bool}
end
end L2

namespace L2
open PySem PySem.Spec PyProof.Rows

section
variable {X : Cx} {e : Expr} {es : List Expr} {te : TE} {t : TA} {pos : Pos}
end

section
variable {X : Cx} {pins : List (Addr × Obj)} {σ : St} {H : Hp} {s s' : Shared}
end

section
variable {X : Cx} {CX : CXT} {k : Nat} {f C : Addr} {fd : FuncData} {ps : List Str} {sp : Sp} {dvs : List V} {ds : List Value} {E : XK} {x m : Str} {p pos apos : Pos} {e o : Expr} {es : List Expr} {ta : TE} {t : TA}

end

section
variable {X : Cx} {CX : CXT} {k : Nat} {f C : Addr} {fd : FuncData} {ps ks : List Str} {sp : Sp} {E : XK} {x m : Str} {p pos apos kpos : Pos} {e o : Expr} {es : List Expr} {kws : List Keyword} {te ta : TE} {t tk : TA} {nm : Option Str}
variable {g : List Value → List Value → List Value} {gV : List V → List V → List V}
end

end L2

namespace L2
open PySem PySem.Spec PyProof.Rows
section
variable {X : Cx} {x : Str} {p pos : Pos} {e : Expr} {es : List Expr} {t : TA} {id T : String} {r : List V → Hp → VK → Prop}

end
end L2

namespace L2
open PySem PySem.Spec PyProof.Rows

section
variable {κ : Type} [DecidableEq κ]
def dropK (kvs : List (κ × V)) (k : κ) : List (κ × V) := kvs.filter fun kv => decide (kv.1 ≠ k)

theorem KV.drop {kvs : List (κ × V)} {vs : List (κ × Value)} (r : KV kvs vs) (k : κ) : KV (dropK kvs k) (without vs k) := by
  unfold KV at r ⊢
  unfold dropK without
  induction r with
  | nil => exact .nil
  | @cons p q ps qs h t ih =>
    obtain ⟨h1, h2⟩ := h
    rw [List.filter_cons, List.filter_cons]
    by_cases e : p.1 = k
    · have a : ¬ decide (p.1 ≠ k) = true := by simp [e]
      have b : ¬ decide (q.1 ≠ k) = true := by simp [h1.symm.trans e]
      rw [if_neg a, if_neg b]; exact ih
    · have e' : ¬ q.1 = k := fun z => e (h1.trans z)
      have a : decide (p.1 ≠ k) = true := by simp [e]
      have b : decide (q.1 ≠ k) = true := by simp [e']
      rw [if_pos a, if_pos b]; exact .cons ⟨h1, h2⟩ ih
theorem KV.length {kvs : List (κ × V)} {vs : List (κ × Value)} (r : KV kvs vs) : kvs.length = vs.length := Paired.length r
end


section
variable {P : Program} {w : World} {H : Hp} {h : Heap} {a : Addr}
end

section
variable {X : Cx} {pins : List (Addr × Obj)} {σ : St} {H : Hp} {s : Shared} {a : Addr} {y v : V} {u r : Value} {o : Option V} {A : Around} {E : Value → Shared → Prop}

end

section
variable {X : Cx} {pins : List (Addr × Obj)} {σ : St} {H : Hp} {s : Shared} {a : Addr} {kvs : List (Key × V)} {k : Key} {u : Value} {A : Around} {E : Value → Shared → Prop}
end


section
variable {X : Cx} {o i e value : Expr} {pos pos' tpos : Pos} {td ty tv : TE}
end


section
variable {X : Cx} {pos : Pos}
end

section
variable {X : Cx} {pins : List (Addr × Obj)} {σ : St} {H : Hp} {s : Shared} {a : Addr} {y d : V} {u r : Value} {o : Option V} {A : Around} {E : Value → Shared → Prop}
end

section
variable {X : Cx} {o e f : Expr} {apos cpos : Pos} {td ty tx : TE}
end

section
variable {X : Cx} {pins : List (Addr × Obj)} {σ : St} {H : Hp} {s : Shared} {a : Addr} {kvs : List (Key × V)} {A : Around} {E : Value → Shared → Prop}
end


section
variable {X : Cx} {pins : List (Addr × Obj)} {σ : St} {H : Hp} {s : Shared} {a : Addr} {y : V} {u : Value} {A : Around} {E : Value → Shared → Prop}
end
end L2

namespace Att
open PySem PySem.W PySem.Calls PyProof.Rows

section
variable {prog : Program} {w : World} {A : Around} {E : Value → Shared → Prop} {s : Shared} {K : Frag}

end
end Att

namespace L2
open PySem PySem.Spec PyProof.Rows

end L2

namespace L2
open PySem PySem.Spec PyProof.Rows

end L2

/- THE LAST THEOREM (shape; LID, My.* are yours):
   My.Adr: a structure of the addresses that your layer names (classes, functions); My.Txt K t: a structure (Prop) of the equations over K;
   My.txt_mk : {K} {implicit addresses ..} (e1 : nsIn K mainGlobals "law" = some (some (.ref f))) (e2 : K.lookup f = some ⟨oc, od, .func (fnOf "law" "law" params body scope dV kV doc pm an cdv ct), sl⟩) (e3 : codeIn K cdv "law" = true) .. : ∃ t, My.Txt K t

set_option maxRecDepth 100000 in
set_option maxHeartbeats 0 in
theorem PySem.Challenge.cw_LID_holds : PySem.Challenge.rw_LID.Holds := by
  w_on; o_law; k_head; (case hw => w_witness2)
  k_fill
  refine L2.walk_of (l := PySem.Challenge.rw_LID) (n := 63) (k := 40) (x := "script") (CX := fun w => ..) (sp := fun _ => My.sp_law) rfl (by decide) rfl ⟨rfl, by decide, by decide⟩ (fun w h Y => PySem.W.kIn_of Y) ?F ?S ?C
  case F =>
    intro w mg fa h KX G hmg
    have T : ∃ t, My.Txt (L2.KOf KX) t := by
      dsimp only [L2.KOf]                          -- K must stand as «<heap const> w.params» for k_is
      refine' My.txt_mk ?e1 ?e2 ?e3 ..
      (case e1 => PySem.W.k_is)                    -- in the order: a name -> its address -> its object -> its parts
      (case e2 => PySem.W.k_is)
      ..
    obtain ⟨t, T⟩ := T
    have e0 := hmg.symm.trans (PySem.W.mg_of KX G T.law)
    cases e0                                       -- fa is the law's own address
    exact ⟨_, fun s u => .of_eq rfl, fun base kb nb => My.law_fn T kb nb⟩     -- if «.of_eq rfl» comes too early: refine' ⟨_, ?b, fun base kb nb => My.law_fn T kb nb⟩; exact fun s u => .of_eq rfl
  case S => exact fun w H a ns hl hO hS => ..
  case C => exact ..
(the tactic k_is has no namespace: write k_is) -/

namespace L2
open PySem PySem.Spec PyProof.Rows

section
variable {P : Program} {w : World} {K : PySem.W.Frag} {mg : Str → Option Value} {base : Heap}
end
section
variable {X : Cx}
end

section
variable {κ : Type} [DecidableEq κ]
end
end L2


set_option Elab.async false
set_option linter.all false
set_option maxRecDepth 100000
set_option maxHeartbeats 4000000
namespace L2
open PySem PySem.Spec PyProof.Rows
section
variable {X : Cx} {st : Stmt} {rest : List Stmt} {t u : TS}
/-- a statement by what holds behind it, whichever way it went -/
def tCut (t u : TS) : TS := fun D σ H => ∃ R : St → Hp → Prop, t { D with nx := R } σ H ∧ ∀ σ' H', R σ' H' → u D σ' H'
theorem pss_cut (h1 : PS X st t) (h2 : PSs X rest u) : PSs X (st :: rest) (tCut t u) := by
  rintro pins s σ H D I ⟨R, h, hR⟩
  refine wpAny_execs_cons (thn (h1 pins s σ H { D with nx := R } I h) fun f s1 q => ?_)
  cases f with
  | next =>
    obtain ⟨σ', H', I', q⟩ := q
    exact h2 pins s1 σ' H' D I' (hR _ _ q)
  | ret v => exact q
  | brk => exact q
  | cont => exact q
/-- a call of a def of the text -/
theorem pe_cD {CX : CXT} {x : Str} {sd : Stmt} {ps : List Str} {f : Addr} {fd : FuncData} {sp : Sp} {j k : Nat} {E : XK} {e : Expr} {es : List Expr} {p pos : Pos} {t : TA} (D : Tw.Df X.K X.mg x sd ps f fd) (F : FnOk X.prog X.w X.K X.mg X.base CX j f fd ps sp) (hj : j ≤ k) (hr : Room k X.A) (hx : Passes CX X E) (hg : Gl X x)
    (ha : PA X (e :: es) t) (hdb : (x == ("__debug__" : Str)) = false := by decide) (he : starEach (e :: es) X.env = (false, eval e X.env) :: starEach es X.env := by rfl) (hpl : (backTo pos (starEach es X.env)).any (·.1) = false := by rfl) :
    PE X (.Call (.Name x p) (e :: es) [] pos) (tCall sp [] E t) := pe_call (F.mono hj) hr hg D.m D.F.kp D.b .nil hx ha hdb he hpl
end
end L2
namespace Tw
open PySem L2
end Tw

set_option Elab.async false
set_option linter.all false
set_option maxRecDepth 100000
set_option maxHeartbeats 4000000
namespace Tw
theorem sum_succ {ns : List Int} {k : Nat} {b : Int} (h : ns[k]? = some b) : (ns.take (k + 1)).sum = (ns.take k).sum + b := by
  rw [List.take_add_one, h]
  simp [List.sum_append]
theorem blk_lt : ∀ {ns : List Int}, IsBits ns → blk ns < 2 ^ ns.length
  | [], _ => by simp [blk]
  | b :: r, h => by
    have := blk_lt h.tail
    have := h.head
    rw [List.length_cons, Int.pow_succ]
    simp only [blk]
    omega
theorem blk_turn : ∀ l : List Int, blk (l.map fun x => 1 - x) = 2 ^ l.length - 1 - blk l
  | [] => by simp [blk]
  | x :: l => by
    rw [List.map_cons, List.length_cons, Int.pow_succ]
    simp only [blk]
    rw [blk_turn l]
    omega
theorem sum_turn : ∀ (l : List Int) (k : Nat), k ≤ l.length → ((l.map fun x => 1 - x).take k).sum = k - (l.take k).sum
  | _, 0, _ => by simp
  | [], k + 1, h => by simp at h
  | x :: l, k + 1, h => by
    have := sum_turn l k (by simpa using h)
    rw [List.map_cons, List.take_succ_cons, List.take_succ_cons, List.sum_cons, List.sum_cons, this]
    omega
theorem turned {b : Int} (h0 : 0 ≤ b) (h1 : b < 2 ^ 32) : (∀ k : Nat, k < 32 → bit (2 ^ 32 - 1 - b) k = 1 - bit b k) ∧ ∀ k : Nat, k ≤ 32 → ones (2 ^ 32 - 1 - b) k = k - ones b k := by
  have hb := isBits_bits b 32
  have e := blk_bits 32 b h0 h1
  have hl := bits_length b 32
  have ht : IsBits ((bits b 32).map fun x => 1 - x) := fun x hx => by
    obtain ⟨y, hy, rfl⟩ := List.mem_map.mp hx
    have := hb y hy
    omega
  have et : blk ((bits b 32).map fun x => 1 - x) = 2 ^ 32 - 1 - b := by rw [blk_turn, hl, e]
  refine ⟨fun k hk => ?_, fun k hk => ?_⟩
  · rw [← et, bit_blk ht, List.getElem?_map, bits_get hk]
    rfl
  · rw [← et, ones_blk ht, sum_turn _ _ (by omega), ← ones_blk hb, e]
def nz (ns : List Int) (n : Nat) : List Int := (List.range n).map fun k : Nat => 32 * (k : Int) - (ns.take (32 * k)).sum
end Tw

set_option Elab.async false
set_option linter.all false
set_option maxRecDepth 100000
set_option maxHeartbeats 4000000
namespace Tw
theorem isBits_brk : ∀ (l : List Int) (u : Int), IsBits (brk l u)
  | [], u => fun b hb => .inl (List.eq_of_mem_replicate hb)
  | d :: r, u => fun b hb => by
    simp only [brk, List.mem_append, List.mem_cons] at hb
    rcases hb with hb | rfl | hb
    · exact .inl (List.eq_of_mem_replicate hb)
    · exact .inr rfl
    · exact isBits_brk r _ b hb
theorem sum_snoc {ns : List Int} {k : Nat} {b : Int} (h : ns[k]? = some b) : (ns.take (k + 1)).sum = (ns.take k).sum + b := by
  rw [List.take_add_one, h]
  simp
/-- where the walk over a tree's brackets stands behind k of them -/
theorem brk_at {ds : List Int} (hg : GoodD ds) : ∀ k : Nat, k ≤ (brk ds 0).length → ∃ nd : Nat, nd ≤ ds.length ∧ nd ≤ k ∧ ((brk ds 0).take k).sum = nd ∧ (brk ds 0).drop k = brk (ds.drop nd) (ht (brk ds 0) k) ∧ Dp (ds.drop nd) (ht (brk ds 0) k)
  | 0, _ => ⟨0, Nat.zero_le _, Nat.le_refl _, rfl, by rw [ht_zero]; rfl, by rw [ht_zero]; exact hg.dp⟩
  | k + 1, hk => by
    obtain ⟨nd, h1, h2, h3, h4, h5⟩ := brk_at hg k (by omega)
    have hg1 : (brk ds 0)[k]? = some (brk ds 0)[k] := List.getElem?_eq_getElem (by omega)
    have e1 : (brk ds 0).drop k = (brk ds 0)[k] :: (brk ds 0).drop (k + 1) := List.drop_eq_getElem_cons (by omega)
    rw [e1] at h4
    have hh := ht_succ hg1
    have hs := sum_snoc hg1
    rcases brk_step h5 h4.symm with ⟨z, _, e2, d2⟩ | ⟨r, e0, z, e2, d2⟩
    · rw [z] at hh hs
      refine ⟨nd, h1, by omega, by omega, ?_, ?_⟩
      · rw [hh, e2]
        congr 1
        omega
      · rw [hh, show ht (brk ds 0) k + 2 * 0 - 1 = ht (brk ds 0) k - 1 from by omega]
        exact d2
    · rw [z] at hh hs
      have hlt : nd < ds.length := by
        have := congrArg List.length e0
        rw [List.length_drop, List.length_cons] at this
        omega
      have ed : ds.drop (nd + 1) = r := by
        have : ds.drop (nd + 1) = (ds.drop nd).drop 1 := by rw [List.drop_drop]
        rw [this, e0]
        rfl
      have eh : ht (brk ds 0) k + 2 * 1 - 1 = ht (brk ds 0) k + 1 := by omega
      refine ⟨nd + 1, hlt, by omega, by omega, ?_, ?_⟩
      · rw [hh, eh, ed]
        exact e2
      · rw [hh, eh, ed]
        exact d2
theorem brk_len {ds : List Int} (hg : GoodD ds) : (brk ds 0).length = 2 * ds.length := by
  rw [brk_length hg.dp]
  show 0 + _ = _
  omega
/-- the next bracket -/
theorem brk_next {ds : List Int} (hg : GoodD ds) {k : Nat} (hk : k < (brk ds 0).length) : ((brk ds 0)[k]? = some 0 ∧ 0 < ht (brk ds 0) k) ∨ ((brk ds 0)[k]? = some 1 ∧ ∃ nd : Nat, ((brk ds 0).take k).sum = nd ∧ nd < ds.length ∧ ds[nd]? = some (ht (brk ds 0) k)) := by
  obtain ⟨nd, h1, h2, h3, h4, h5⟩ := brk_at hg k (by omega)
  have hg1 : (brk ds 0)[k]? = some (brk ds 0)[k] := List.getElem?_eq_getElem (by omega)
  have e1 : (brk ds 0).drop k = (brk ds 0)[k] :: (brk ds 0).drop (k + 1) := List.drop_eq_getElem_cons (by omega)
  rw [e1] at h4
  rcases brk_step h5 h4.symm with ⟨z, u, e2, d2⟩ | ⟨r, e0, z, e2, d2⟩
  · exact .inl ⟨by rw [hg1, z], by omega⟩
  · refine .inr ⟨by rw [hg1, z], nd, h3, ?_, ?_⟩
    · have := congrArg List.length e0
      rw [List.length_drop, List.length_cons] at this
      omega
    · have := List.getElem?_drop (xs := ds) (i := nd) (j := 0)
      rw [e0] at this
      exact this.symm
theorem brk_tree {ds : List Int} (hg : GoodD ds) : Tree (brk ds 0) := by
  have hl := brk_len hg
  have h0 : 0 < ds.length := (List.getElem?_eq_some_iff.mp hg.1).1
  refine ⟨by omega, ?_, fun k k0 k1 => ?_⟩
  · obtain ⟨nd, h1, h2, h3, h4, h5⟩ := brk_at hg _ (Nat.le_refl _)
    rw [List.drop_length] at h4
    exact (brk_nil h5 h4.symm).2
  · rcases brk_next hg k1 with ⟨_, z⟩ | ⟨_, nd, e1, e2, e3⟩
    · exact z
    · obtain ⟨_, _, _, _, _, h5⟩ := brk_at hg k (by omega)
      have hp := h5.pos
      rcases Nat.eq_zero_or_pos nd with rfl | z
      · unfold ht at hp
        omega
      · have := hg.one z e3
        omega
theorem brk_ht_le {ds : List Int} (hg : GoodD ds) {k : Nat} (hk : k ≤ (brk ds 0).length) : ht (brk ds 0) k ≤ ds.length := by
  obtain ⟨nd, h1, h2, h3, _⟩ := brk_at hg k hk
  unfold ht
  omega
theorem brk_sum {ds : List Int} (hg : GoodD ds) {k : Nat} (hk : (brk ds 0).length ≤ k) : ((brk ds 0).take k).sum = ds.length := by
  have h := (brk_tree hg).2.1
  have hl := brk_len hg
  unfold ht at h
  rw [List.take_length] at h
  rw [List.take_of_length_le hk]
  omega
/-- the least of the heights of a block's first k places, and of the number of nodes -/
def LowTo (ns : List Int) (n j k : Nat) (m : Int) : Prop := m ≤ n ∧ (m = n ∨ ∃ t, 32 * j < t ∧ t ≤ 32 * j + k ∧ m = ht ns t) ∧ ∀ t, 32 * j < t → t ≤ 32 * j + k → m ≤ ht ns t
theorem LowTo.zero (ns : List Int) (n j : Nat) : LowTo ns n j 0 n := ⟨Int.le_refl _, .inl rfl, fun t t1 t2 => by omega⟩
theorem LowTo.step {ns : List Int} {n j k : Nat} {m : Int} (h : LowTo ns n j k m) : LowTo ns n j (k + 1) (if ht ns (32 * j + k + 1) < m then ht ns (32 * j + k + 1) else m) := by
  obtain ⟨h1, h2, h3⟩ := h
  have g : ∀ t, 32 * j < t → t ≤ 32 * j + (k + 1) → t = 32 * j + k + 1 ∨ t ≤ 32 * j + k := fun t _ _ => by omega
  split
  · refine ⟨by omega, .inr ⟨32 * j + k + 1, by omega, by omega, rfl⟩, fun t t1 t2 => ?_⟩
    rcases g t t1 t2 with rfl | z
    · exact Int.le_refl _
    · have := h3 t t1 z
      omega
  · refine ⟨h1, ?_, fun t t1 t2 => ?_⟩
    · rcases h2 with h2 | ⟨t, t1, t2, e⟩
      · exact .inl h2
      · exact .inr ⟨t, t1, by omega, e⟩
    · rcases g t t1 t2 with rfl | z
      · omega
      · exact h3 t t1 z
theorem brk_sum_all {ds : List Int} (hg : GoodD ds) : (brk ds 0).sum = ds.length := by
  have := brk_sum hg (k := (brk ds 0).length) (Nat.le_refl _)
  rw [List.take_length] at this
  exact this
/-- the depth at an opening bracket -/
theorem brk_deep {ds : List Int} (hg : GoodD ds) {i p : Nat} (h1 : (brk ds 0)[p]? = some 1) (h2 : ((brk ds 0).take p).sum = (i : Int)) : ds[i]? = some (ht (brk ds 0) p) := by
  have hp := (List.getElem?_eq_some_iff.mp h1).1
  rcases brk_next hg hp with ⟨z, _⟩ | ⟨_, nd, n1, n2, n3⟩
  · rw [z] at h1
    cases h1
  · have : nd = i := by omega
    subst this
    exact n3

end Tw

set_option Elab.async false
set_option linter.all false
set_option maxRecDepth 100000
set_option maxHeartbeats 4000000
namespace Tw
open PySem L2
/-- the node over node j at depth g: itself or the last one ahead that is so deep, with all between deeper -/
def UpN (ds : List Int) (j : Nat) (g : Int) (i : Nat) : Prop := i ≤ j ∧ ds[i]? = some g ∧ ∀ m x, i < m → m ≤ j → ds[m]? = some x → g < x
theorem UpN.trans {ds : List Int} {j i e : Nat} {g : Int} (h : UpN ds j g i) (h' : UpN ds i (g - 1) e) : UpN ds j (g - 1) e := by
  obtain ⟨a1, a2, a3⟩ := h
  obtain ⟨b1, b2, b3⟩ := h'
  refine ⟨by omega, b2, fun m x m1 m2 e => ?_⟩
  rcases Nat.lt_or_ge i m with z | z
  · have := a3 m x z m2 e
    omega
  · exact b3 m x m1 z e
/-- how many nodes from k on, one behind the other, are deeper than g -/
def run (ds : List Int) (k : Nat) (g : Int) : Nat := ((ds.drop k).takeWhile fun x => decide (g < x)).length
end Tw

set_option Elab.async false
set_option linter.all false
set_option maxRecDepth 100000
set_option maxHeartbeats 4000000
namespace L2
open PySem PySem.Spec PyProof.Rows
/-- f(..), f a name that holds a def of the text -/
def tCallV (i : Nat) (f : Addr) (sp : Sp) (E : XK) (t : TA) : TE := fun σ H Q => σ[i]? = some (some (.ref f)) ∧ t σ H fun vs H1 => sp vs H1 Q E
theorem pe_callV {X : Cx} {CX : CXT} {j k i : Nat} {f : Addr} {fd : FuncData} {ps : List Str} {sp : Sp} {E : XK} {x : Str} {p pos : Pos} {e : Expr} {es : List Expr} {t : TA} (F : FnOk X.prog X.w X.K X.mg X.base CX j f fd ps sp) (hj : j ≤ k) (hr : Room k X.A) (hx : Passes CX X E) (hi : X.N[i]? = some x) (hk : PySem.W.keepIn X.K (.ref f) = true) (hb : Binds X.K fd ps []) (ha : PA X (e :: es) t)
    (hv : Vis X.env.scope x := by first | exact Or.inl rfl | exact Or.inr (Or.inl rfl) | exact Or.inr (Or.inr rfl)) (hd : (x == ("__debug__" : Str)) = false := by decide) (hcd : (x == ("__classdict__" : Str)) = false := by decide)
    (he : starEach (e :: es) X.env = (false, eval e X.env) :: starEach es X.env := by rfl) (hpl : (backTo pos (starEach es X.env)).any (·.1) = false := by rfl) : PE X (.Call (.Name x p) (e :: es) [] pos) (tCallV i f sp E t) := by
  intro pins s σ H Q I h
  obtain ⟨hs, h⟩ := h
  refine wpAny_Call_Name_kw (thn (pe_var hi hv hd hcd pins s σ H (fun v H' => v = .ref f ∧ H' = H) I ⟨_, hs, rfl, rfl⟩) fun u s1 hu => ?_)
  obtain ⟨v, H1, I1, rv, rfl, rfl⟩ := hu
  obtain rfl : u = Value.ref f := rv
  refine PySem.W.callWith_K (h₀ := X.base) I1.ok.mod.kin hk (thn (ha pos pins s1 σ H1 _ I1 h) fun us s2 ⟨vs, H2, I2, r, q⟩ => ⟨I2.kIn, ?_⟩) he hpl
  exact run_fn (F.mono hj) hr hb .nil hx I2 r (by rw [List.append_nil]; exact q)
end L2

set_option Elab.async false
set_option linter.all false
set_option maxRecDepth 100000
set_option maxHeartbeats 4000000
namespace L2
open PySem PySem.Spec PyProof.Rows

/-! ### exceptions without a context: they keep so while they pass -/
def TrC (h base : Heap) (e : Addr) (cls a0 cx fl : Value) : Prop :=
  ∃ o vs T p ts, h.get? e = some o ∧ o.cls = cls ∧ o.data = .fields vs ∧ vs[0]? = some a0 ∧ vs[2]? = some cx ∧ vs[1]? = some (.ref T) ∧ base.get? T = none ∧ T ≠ e ∧ h.get? T = some p ∧ p.data = .fields ts ∧ ts[3]? = some fl
/-- an exception that passes, with the context cx -/
structure FlyX (base : Heap) (l : List Env) (e : Addr) (cls a0 cx fl : Value) (h : Heap) : Prop where
  stay : base.StaysIn h
  new : base.get? e = none
  fun_ : h.FunFrames base l
  tr : TrC h base e cls a0 cx fl
abbrev FlyC (base : Heap) (l : List Env) (e : Addr) (cls a0 fl : Value) (h : Heap) : Prop := FlyX base l e cls a0 .none fl h
def NoCtx (e : Addr) (h : Heap) : Prop := ∃ o vs, h.get? e = some o ∧ o.data = .fields vs ∧ vs[2]? = some Value.none
section
variable {base h : Heap} {l : List Env} {e L : Addr} {cls a0 cx fl : Value}
theorem TrC.w (x : TrC h base e cls a0 cx fl) : h.TracedAtW base e cls a0 fl := by
  obtain ⟨o, vs, T, p, ts, c1, c2, c3, c4, c5, c6, c7, c8, c9, d1, d2⟩ := x
  exact ⟨o, vs, T, p, ts, c1, ⟨c2, c4⟩, c3, c6, c7, c8, c9, d1, d2⟩
theorem FlyX.w (x : FlyX base l e cls a0 cx .none h) : Heap.FlyingW base l e cls a0 h := ⟨x.stay, x.new, x.fun_, x.tr.w⟩
theorem FlyX.tail {env : Env} (x : FlyX base (env :: l) e cls a0 cx fl h) : FlyX base l e cls a0 cx fl h := ⟨x.stay, x.new, x.fun_.2.2, x.tr⟩
end
section
variable {M : Model} {A : Around} {E : Value → Shared → Prop} {s : Shared} {base : Heap} {l outer : List Env} {env : Env} {e L : Addr} {cls a0 cx fl : Value} {Q : Unit → Shared → Prop}
theorem rec_ne {h : Heap} {T : Addr} {p : Obj} {ts : Array Value} (hT : h.get? T = some p) (hd : p.data = .fields ts) {b : Addr} {o : Obj} (hb : h.get? b = some o) (n : ∀ vs, o.data ≠ .fields vs) : T ≠ b := by
  rintro rfl
  rw [hT] at hb
  cases hb
  exact n _ hd
/-- the flight of an exception is set: one field of its newest entry -/
theorem fly_at (y : FlyX base l e cls a0 cx fl s.heap) :
    ∃ o vs T p ts, s.heap.get? e = some o ∧ o.data = .fields vs ∧ vs[1]? = some (.ref T) ∧ s.heap.get? T = some p ∧ p.data = .fields ts ∧ ts[3]? = some fl ∧
      ∀ (x : Value) (Q : Unit → Shared → Prop), (∀ h', FlyX base l e cls a0 cx x h' → s.heap.UpToSlots h' → Q () { s with heap := h' }) → wpAny M A (setField (.ref T) 3 x) Q E s := by
  obtain ⟨st, nw, fu, o, vs, T, p, ts, c1, c2, c3, c4, c5, c6, c7, c8, c9, d1, d2⟩ := y
  have lt : 3 < ts.size := (Array.getElem?_eq_some_iff.mp d2).1
  have eqs : ∀ x b, T ≠ b → (s.heap.update T (Obj.mapFields (·.setIfInBounds 3 x))).get? b = s.heap.get? b := fun x b hb => Heap.get?_update_other _ _ hb
  refine ⟨o, vs, T, p, ts, c1, c3, c6, c9, d1, d2, fun x Q k => wpAny_setField c9 d1 lt (k _ ⟨fun b w hb => ?_, nw, fu.of_keeps fun b w hb n => ⟨w, ?_, rfl⟩, ?_⟩ fun b w hb n => ⟨w.slots, ?_⟩)⟩
  · rw [eqs x b fun z => by rw [← z, c7] at hb; cases hb]
    exact st b w hb
  · rw [eqs x b (rec_ne c9 d1 hb n)]
    exact hb
  · refine ⟨o, vs, T, _, _, ?_, c2, c3, c4, c5, c6, c7, c8, Heap.get?_update_self _ c9 (Obj.isFreed_of_fields (Obj.data_mapFields d1 _)), Obj.data_mapFields d1 _, ?_⟩
    · rw [eqs x e c8]
      exact c1
    · simp [lt]
  · rw [eqs x b (rec_ne c9 d1 hb n)]
    exact hb
theorem fly_set {f : Option Addr} (y : FlyX base l e cls a0 cx fl s.heap) (k : ∀ h', FlyX base l e cls a0 cx (f.elim .none fun f => rawInt f) h' → s.heap.UpToSlots h' → Q () { s with heap := h' }) : wpAny M A (setFlight (.ref e) f) Q E s := by
  obtain ⟨o, vs, T, p, ts, c1, c3, c6, c9, d1, d2, g⟩ := fly_at (M := M) (A := A) (E := E) y
  unfold setFlight
  refine wpAny_bind (wpAny_field c1 c3 c6 ?_)
  have : (Value.ref T != Value.none) = true := by simp
  rw [if_pos this]
  exact g _ _ k
/-- a new entry ahead of what was noted -/
theorem fly_entry {o : Obj} {vs : Array Value} {hd : Value} {b : Bool} (fr : A.frames = some (env :: outer)) (ef : env.frame = some L) (st : base.StaysIn s.heap) (nw : base.get? e = none) (fu : s.heap.FunFrames base (env :: outer))
    (c1 : s.heap.get? e = some o) (c3 : o.data = .fields vs) (c4 : vs[0]? = some a0) (c5 : vs[2]? = some cx)
    (k : ∀ h', FlyX base (env :: outer) e o.cls a0 cx (rawInt L) h' → s.heap.UpToSlots h' → Q () { s with heap := h' }) :
    wpAny M A (do let x ← frameOf env; let y ← entryPlaceOf L b; let z ← EntryCells.newEntry hd x .none (rawInt L) .none y; setField (.ref e) 1 z) Q E s := by
  have lt2 : 2 < vs.size := (Array.getElem?_eq_some_iff.mp c5).1
  have lt : 1 < vs.size := Nat.lt_trans (by decide) lt2
  have nin : e ∉ (env :: outer).filterMap (·.frame) := fun z => by
    obtain ⟨_, q, hq, nf⟩ := fu.mem z
    rw [c1] at hq
    cases hq
    exact nf _ c3
  refine wpAny_bind (wpAny_frameOf_fun fr fu ef fun h1 so => ?_)
  refine wpAny_bind (wpAny_entryPlaceOf fun pl ip => ?_)
  unfold EntryCells.newEntry newFields
  refine wpAny_bind (wpAny_newObj_type ?_ (ip.sizeOk5 ..))
  have e1 : h1.get? e = some o := (so.2.1 e nin).trans c1
  have st1 : base.StaysIn h1 := fun a w ha => by
    rw [so.2.1 a fun z => by rw [(fu.mem z).1] at ha; cases ha]
    exact st a w ha
  generalize hp : ({ cls := .type "traceback", dict := none, data := .fields ([hd, .ref L, .none, rawInt L, .none] ++ (if pl.isEmpty then List.replicate 6 Value.none else pl)).toArray } : Obj) = p
  have pd : p.data = .fields ([hd, .ref L, .none, rawInt L, .none] ++ (if pl.isEmpty then List.replicate 6 Value.none else pl)).toArray := by rw [← hp]
  have nf : p.isFreed = false := Obj.isFreed_of_fields pd
  have e2 : (h1.push p).get? e = some o := Heap.get?_push_of_some _ e1
  have ne : h1.objs.size ≠ e := Nat.ne_of_gt (Heap.lt_size e1)
  refine wpAny_setField e2 c3 lt (k _ ⟨fun a w ha => ?_, nw, fu.of_keeps fun a w ha n => ?_, ?_⟩ fun a w ha n => ?_)
  · rw [Heap.get?_update_other _ _ fun z => by rw [← z, nw] at ha; cases ha]
    exact Heap.get?_push_of_some _ (st1 a w ha)
  · obtain ⟨sl, hs⟩ := so.2.2 a w ha
    refine ⟨{ w with slots := sl }, ?_, rfl⟩
    rw [Heap.get?_update_other _ _ (rec_ne c1 c3 ha n)]
    exact Heap.get?_push_of_some _ hs
  · refine ⟨_, _, h1.objs.size, p, _, Heap.get?_update_self _ e2 (Obj.isFreed_of_fields (Obj.data_mapFields c3 _)), Obj.cls_mapFields .., Obj.data_mapFields c3 _, ?_, ?_, ?_, st1.fresh, ne, ?_, pd, ?_⟩
    · rw [Array.getElem?_setIfInBounds_ne (by decide)]
      exact c4
    · rw [Array.getElem?_setIfInBounds_ne (by decide)]
      exact c5
    · simp [lt]
    · rw [Heap.get?_update_other _ _ (Ne.symm ne)]
      exact Heap.get?_push_size h1 nf
    · simp
  · obtain ⟨sl, hs⟩ := so.2.2 a w ha
    refine ⟨sl, ?_⟩
    rw [Heap.get?_update_other _ _ (rec_ne c1 c3 ha n)]
    exact Heap.get?_push_of_some _ hs
/-- an exception that is new is noted -/
theorem fly_first {o : Obj} {vs : Array Value} (fr : A.frames = some (env :: outer)) (ef : env.frame = some L) (st : base.StaysIn s.heap) (nw : base.get? e = none) (fu : s.heap.FunFrames base (env :: outer))
    (c1 : s.heap.get? e = some o) (c3 : o.data = .fields vs) (c4 : vs[0]? = some a0) (c6 : vs[1]? = some Value.none) (c5 : vs[2]? = some cx)
    (k : ∀ h', FlyX base (env :: outer) e o.cls a0 cx (rawInt L) h' → s.heap.UpToSlots h' → Q () { s with heap := h' }) : wpAny M A (noteFrame (.ref e) env) Q E s := by
  unfold noteFrame
  simp only [ef]
  refine wpAny_bind (wpAny_field c1 c3 c6 ?_)
  rw [if_neg (by decide)]
  exact fly_entry fr ef st nw fu c1 c3 c4 c5 k
theorem fly_note (fr : A.frames = some (env :: outer)) (ef : env.frame = some L) (y : FlyX base (env :: outer) e cls a0 cx .none s.heap)
    (k : ∀ h', FlyX base (env :: outer) e cls a0 cx (rawInt L) h' → s.heap.UpToSlots h' → Q () { s with heap := h' }) : wpAny M A (noteFrame (.ref e) env) Q E s := by
  obtain ⟨o, vs, T, p, ts, c1, c3, c6, c9, d1, d2, g⟩ := fly_at (M := M) (A := A) (E := E) y
  unfold noteFrame
  simp only [ef]
  refine wpAny_bind (wpAny_field c1 c3 c6 ?_)
  have n1 : (Value.ref T != Value.none) = true := by simp
  rw [if_pos n1]
  refine wpAny_bind (wpAny_field c9 d1 d2 ?_)
  have n2 : ¬ ((Value.none == rawInt L) = true) := by simp [rawInt]
  rw [if_neg n2]
  refine wpAny_bind (g _ _ fun h' y' up => ?_)
  obtain ⟨st, nw, fu, o, vs, T', p, ts, c1, rfl, c3, c4, c5, c6, r⟩ := y'
  exact fly_entry (s := { s with heap := h' }) fr ef st nw fu c1 c3 c4 c5 fun h2 f2 u2 => k h2 f2 (up.trans u2)
/-- it leaves -/
theorem fly_leaves (fr : A.frames = some (env :: outer)) (ef : env.frame = some L) (y : FlyX base (env :: outer) e cls a0 cx .none s.heap)
    (k : ∀ h', FlyX base outer e cls a0 cx .none h' → s.heap.UpToSlots h' → Q () { s with heap := h' }) : wpAny M A (leaving env (.ref e)) Q E s := by
  unfold leaving
  refine wpAny_bind (fly_note fr ef y fun h1 y1 u1 => ?_)
  exact fly_set (s := { s with heap := h1 }) (f := none) y1 fun h2 y2 u2 => k h2 y2.tail (u1.trans u2)
theorem fly_leaves_first {o : Obj} {vs : Array Value} (fr : A.frames = some (env :: outer)) (ef : env.frame = some L) (st : base.StaysIn s.heap) (nw : base.get? e = none) (fu : s.heap.FunFrames base (env :: outer))
    (c1 : s.heap.get? e = some o) (c3 : o.data = .fields vs) (c4 : vs[0]? = some a0) (c6 : vs[1]? = some Value.none) (c5 : vs[2]? = some cx)
    (k : ∀ h', FlyX base outer e o.cls a0 cx .none h' → s.heap.UpToSlots h' → Q () { s with heap := h' }) : wpAny M A (leaving env (.ref e)) Q E s := by
  unfold leaving
  refine wpAny_bind (fly_first fr ef st nw fu c1 c3 c4 c6 c5 fun h1 y1 u1 => ?_)
  exact fly_set (s := { s with heap := h1 }) (f := none) y1 fun h2 y2 u2 => k h2 y2.tail (u1.trans u2)
/-- it is raised in a handler's suite, and leaves the frame -/
theorem fly_out {A' : Around} {Qx : Value → Unit → Shared → Prop} {Ex : Value → Value → Shared → Prop} {o : Obj} {vs : Array Value} (fr' : A'.frames = some (env :: outer)) (ef : env.frame = some L) (st : base.StaysIn s.heap) (nw : base.get? e = none) (fu : s.heap.FunFrames base (env :: outer))
    (c1 : s.heap.get? e = some o) (c3 : o.data = .fields vs) (c4 : vs[0]? = some a0) (c6 : vs[1]? = some Value.none) (c5 : vs[2]? = some cx)
    (k : ∀ h', FlyX base outer e o.cls a0 cx .none h' → s.heap.UpToSlots h' → Qx (.ref e) () { s with heap := h' }) : notedBy M A' env (cameBackBy M A env (fun x s' => wpAny M A (leaving env x) (Qx x) (Ex x) s')) (.ref e) s := by
  refine fly_first fr' ef st nw fu c1 c3 c4 c6 c5 fun h1 y1 u1 => ?_
  obtain ⟨o1, vs1, T, p, ts, d1, d2, d3, d4, d5, d6, d7, d8, d9, g1, g2⟩ := id y1.tr
  refine wpAny_bind (wpAny_field d1 d3 d6 ?_)
  have n1 : ¬ ((Value.ref T == Value.none) = true) := by simp
  rw [if_neg n1]
  refine fly_set (s := { s with heap := h1 }) (f := env.frame) y1 fun h2 y2 u2 => ?_
  rw [ef] at y2
  show wpAny M A (leaving env (.ref e)) (Qx (.ref e)) _ { s with heap := h2 }
  unfold leaving
  refine wpAny_bind (wpAny_noteFrame_againW ef y2.tr.w ?_)
  exact fly_set (s := { s with heap := h2 }) (f := none) y2 fun h3 y3 u3 => k h3 y3.tail ((u1.trans u2).trans u3)
end
end L2
namespace L2
open PySem PySem.Spec PyProof.Rows
/-! ### raise C(a) from None, while an exception without a context is handled -/
theorem entry_unchain : entryFor table "proto.unchain" = some Builtin.«proto.unchain» := entryFor_of_tree (by kernel_rfl)
section
variable {prog : Program} {w : World} {A : Around} {E : Value → Shared → Prop} {s : Shared} {env : Env}
theorem raise_under {α : Type} {e ea : Addr} {o : Obj} {vs : Array Value} {Q : α → Shared → Prop} (hh : A.handled = some (.ref ea)) (ne : ea ≠ e) (n : NoCtx ea s.heap) (c1 : s.heap.get? e = some o) (c3 : o.data = .fields vs) (lt : 2 < vs.size)
    (k : E (.ref e) { s with heap := s.heap.update e (Obj.mapFields (·.setIfInBounds 2 (.ref ea))) }) : wpAny (model prog w) A (raiseNew (.ref e) : Sem α) Q E s := by
  unfold raiseNew
  refine wpAny_bind (wpAny_handled ?_)
  rw [hh]
  have n1 : (Value.ref ea != Value.ref e) = true := by simpa using ne
  obtain ⟨oa, va, a1, a2, a3⟩ := n
  simp only [n1, if_true]
  refine wpAny_bind (wpAny_holding (wpAny_runValue (codeAny_builtin entry_unchain ?_)))
  unfold Builtin.«proto.unchain»
  refine wpAny_bind (wpAny_field a1 a2 a3 ?_)
  simp only [beq_self_eq_true, if_true]
  refine wpAny_bind (wpAny_pure (wpAny_pure ?_))
  refine wpAny_bind ?_
  unfold updateField
  refine wpAny_bind (wpAny_load c1 ?_)
  rw [c3]
  simp only [lt, if_true]
  exact wpAny_update c1 (wpAny_throw k)
theorem raise_none {x : Sem Value} {c : Sem Value} {ea C : Addr} {nm q : Str} {N : Addr} {bs bm : List Value} {hdct : Bool} {sn : List Str} {sub : List Value} {ab : Bool} {col : Option Bool} {dd : Option Addr} {k0 k1 k2 k3 k5 : Option Value} {newId : String} {Q : Flow → Shared → Prop}
    (hb : bm.contains (.type "BaseException") = true) (hh : A.handled = some (.ref ea)) (hc : ∀ s, wpAny (model prog w) A c (fun v s' => v = .none ∧ s' = s) E s)
    (h : wpAny (model prog w) A x (fun v s1 => ∃ e t, v = .ref e ∧ s1.heap.get? C = some (excClassObj nm q C N bs bm hdct sn sub ab col dd k0 k1 k2 k3 k5 newId) ∧ NoCtx ea s1.heap ∧ ea ≠ e ∧
      s1.heap.get? e = some { cls := .ref C, data := .fields #[.ref t, .none, .none, .none, .bool false, .none] } ∧
      ∀ h', (∀ b, b ≠ e → h'.get? b = s1.heap.get? b) → h'.get? e = some { cls := .ref C, data := .fields #[.ref t, .none, .ref ea, .none, .bool true, .none] } → E (.ref e) { s1 with heap := h' }) E s) :
    wpAny (model prog w) A (raiseStmt env (some x) (some c)) Q E s := by
  have hcB : (Value.ref C :: bm).contains (.type "BaseException") = true := by rw [List.contains_cons, hb, Bool.or_true]
  unfold raiseStmt
  refine wpAny_bind (wpAny_mono h (fun v s1 h1 => ?_) fun _ _ z => z)
  obtain ⟨e, t, rfl, hC, n, ne, he, hE⟩ := h1
  refine wpAny_bind (wpAny_holding (wpAny_mono (hc s1) (fun v s2 z => ?_) fun _ _ z => z))
  obtain ⟨rfl, rfl⟩ := z
  refine wpAny_bind (wpAny_pure ?_)
  obtain ⟨hp, g, d, tk, os⟩ := s2
  repeat (first | with_reducible refine wpAny_loadPart_at he ?_ | with_reducible refine wpAny_loadPart_at hC ?_ | (with_reducible refine wpAny_isSubtype_exc hC ?_; rw [hcB]) | wp_step)
  have ec : e ≠ C := by
    rintro rfl
    rw [show hp.get? e = _ from hC] at he
    cases he
  generalize hh2 : (hp.update e (Obj.mapFields fun x => x.setIfInBounds 3 Value.none)).update e (Obj.mapFields fun x => x.setIfInBounds 4 (Value.bool true)) = hp2
  have oth : ∀ b, b ≠ e → hp2.get? b = hp.get? b := fun b hb => by rw [← hh2, Heap.get?_update_other _ _ (Ne.symm hb), Heap.get?_update_other _ _ (Ne.symm hb)]
  have he2 : hp2.get? e = some { cls := .ref C, data := .fields #[.ref t, .none, .none, .none, .bool true, .none] } := by
    have z := Heap.get?_update_self (Obj.mapFields fun x => x.setIfInBounds 3 Value.none) he rfl
    rw [← hh2, Heap.get?_update_self _ z rfl]
    rfl
  have hC2 : hp2.get? C = _ := (oth C (Ne.symm ec)).trans hC
  repeat (first | with_reducible refine wpAny_loadPart_at he2 ?_ | with_reducible refine wpAny_loadPart_at hC2 ?_ | (with_reducible refine wpAny_isSubtype_exc hC2 ?_; rw [hcB]) | wp_step)
  obtain ⟨oa, va, a1, a2, a3⟩ := n
  refine raise_under (s := ⟨hp2, g, d, tk, os⟩) hh ne ⟨oa, va, (oth ea ne).trans a1, a2, a3⟩ he2 rfl (by show 2 < 6; decide) (hE _ (fun b hb => ?_) ?_)
  · rw [Heap.get?_update_other _ _ (Ne.symm hb)]
    exact oth b hb
  · rw [Heap.get?_update_self _ he2 rfl]
    rfl
theorem exec_raise_none {mN : Str → Option Value} {x : Str} {np cpos cp pos : Pos} {j : Nat} {args : List Expr} {ea C : Addr} {nm q : Str} {N : Addr} {bs bm bmB bmN : List Value} {hdct : Bool} {sn : List Str} {sub : List Value} {ab : Bool} {col : Option Bool} {dd : Option Addr} {k0 k1 k2 k3 k5 : Option Value} {B Bn newId nid initId inN : String} {Q : Flow → Shared → Prop}
    (Fn : ExcBaseFacts Bn newId inN bmN) (hBn : bmB.contains (.type Bn) = true) (F : ExcBaseFacts B nid initId bmB) (hb : bm.contains (.type "BaseException") = true) (hh : A.handled = some (.ref ea))
    (hp : (backTo cpos (starEach args env)).any (·.1) = false) (hni : mN "__init__" = none)
    (h : wpAny (model prog w) A (eval (.Name x np) env) (fun f s1 => f = .ref C ∧ wpAny (model prog w) A (evalArgs (.ref C) true (backTo cpos (starEach args env)) [])
      (fun a s2 => a.kw = [] ∧ a.pos.length ≤ sizeLine ∧ s2.heap.get? C = some (excClassObj nm q C N bs bm hdct sn sub ab col dd k0 k1 k2 k3 k5 newId) ∧ s2.heap.Ns N mN ∧ OwnTail s2.heap bmB bm ∧ NoCtx ea s2.heap ∧
        ∀ h1 e t, (∀ b o, s2.heap.get? b = some o → h1.get? b = some o) → s2.heap.get? e = none → s2.heap.get? t = none → h1.get? t = some { cls := .type "tuple", data := .seq a.pos.toArray } →
          h1.get? e = some { cls := .ref C, data := .fields #[.ref t, .none, .ref ea, .none, .bool true, .none] } → E (.ref e) { s2 with heap := h1 }) E s1) E s) :
    wpAny (model prog w) A (exec (.Raise (some (.Call (.Name x np) args [] cpos)) (some (.Constant .none j cp)) pos) env) Q E s := by
  rw [arm_exec_Raise]
  simp only [evalOpt, Option.map]
  refine wpAny_bind (wpAny_standAt (raise_none (C := C) (nm := nm) (q := q) (N := N) (bs := bs) (bm := bm) (hdct := hdct) (sn := sn) (sub := sub) (ab := ab) (col := col) (dd := dd) (k0 := k0) (k1 := k1) (k2 := k2) (k3 := k3) (k5 := k5) (newId := newId) hb hh (fun s => ?_) ?_))
  · exact wpAny_bind (wpAny_Constant_none (wpAny_bind (wpAny_standAt (wpAny_pure ⟨rfl, rfl⟩))))
  refine wpAny_bind (wpAny_mono (wpAny_Call_ofName (wpAny_mono h (fun f s1 h1 => ?_) fun _ _ z => z)) (fun v s3 h3 => wpAny_bind (wpAny_standAt (wpAny_pure h3))) fun _ _ z => z)
  obtain ⟨rfl, h1⟩ := h1
  unfold callWith
  refine wpAny_bind (wpAny_holding (wpAny_mono h1 (fun a s2 h2 => wpAny_bind (wpAny_standAt ?_)) fun _ _ z => z))
  obtain ⟨ap, ak⟩ := a
  obtain ⟨z, len, hC, hn, T, nc, h2⟩ := h2
  obtain rfl : ak = [] := z
  obtain ⟨hq, g, d, tk, os⟩ := s2
  simp only [hp]
  refine wpAny_bind (wpAny_keeperOf_exc hC (wpAny_bind (wpAny_call_exc_subU (hrest := len) Fn hBn F T hC hn hni fun h' e hm => wpAny_bind (wpAny_holding (wpAny_point (wpAny_pure ?_))))))
  obtain ⟨t, ht, hnt, htt⟩ := hm.there
  obtain ⟨oa, va, a1, a2, a3⟩ := nc
  refine ⟨e, t, rfl, hm.keeps _ _ hC, ⟨oa, va, hm.keeps _ _ a1, a2, a3⟩, fun z => (by rw [z, hm.new] at a1; cases a1), ht, fun h1 o1 e1 => h2 h1 e t (fun b o hb => ?_) hm.new hnt ?_ e1⟩
  · rw [o1 b fun z => by rw [z, hm.new] at hb; cases hb]
    exact hm.keeps b o hb
  · rw [o1 t fun z => by rw [z, ht] at htt; cases htt]
    exact htt
end
end L2
namespace L2
open PySem PySem.Spec PyProof.Rows
section
variable {M : Model} {A : Around} {E : Value → Shared → Prop} {s : Shared} {base : Heap} {outer : List Env} {env : Env} {e L : Addr} {cls : Value} {Q : Unit → Shared → Prop}
theorem fly_made {h : Heap} {args : List Value} (fr : A.frames = some (env :: outer)) (ef : env.frame = some L) (st : base.StaysIn h) (fu : h.FunFrames base (env :: outer)) (m : Heap.MadeExcOf h s.heap e cls args)
    (k : ∀ h' t, FlyC base outer e cls (.ref t) .none h' → s.heap.UpToSlots h' → Q () { s with heap := h' }) : wpAny M A (leaving env (.ref e)) Q E s := by
  obtain ⟨t, he, _, _⟩ := m.there
  have nw : base.get? e = none := by
    cases q : base.get? e with
    | none => rfl
    | some o =>
      have z := st e o q
      rw [m.new] at z
      cases z
  exact fly_leaves_first fr ef (fun b o hb => m.keeps b o (st b o hb)) nw (fu.of_keeps fun b o hb _ => ⟨o, m.keeps b o hb, rfl⟩) he rfl rfl rfl rfl fun h' y u => k h' t y u
end
/-- how an exception of an own class lies behind a call, if it has no context -/
def CXC (P : Program) (w : World) : CXT := fun outer H s E e s' => ∃ (ea C t : Addr) (B : Heap) (H' : Hp), e = .ref ea ∧ s'.os = s.os ∧ AllBare s'.gens ∧ Un (frs outer) [] H H' s.heap s'.heap ∧ HOk P w H' s'.heap ∧
    FlyC B outer ea (.ref C) (.ref t) .none s'.heap ∧ Cov B (frs outer) H H' s.heap ∧ E (.ref C) none H'
theorem CXC.weak {P : Program} {w : World} {outer : List Env} {H : Hp} {s s' : Shared} {E : XK} {e : Value} (h : CXC P w outer H s E e s') : CX1 P w outer H s E e s' := by
  obtain ⟨ea, C, t, B, H', a1, a2, a3, a4, a5, a6, a7, a8⟩ := h
  exact ⟨ea, C, t, B, H', a1, a2, a3, a4, a5, a6.w, a7, a8⟩
section
variable {P : Program} {w : World} {K : PySem.W.Frag} {mg : Str → Option Value} {base : Heap} {N : List Str} {qual : Str} {scope : Scope} {f : Addr} {cd : Value} {A : Around} {outer : List Env} {s0 : Shared} {H0 : Hp} {E : XK}
abbrev XC (P : Program) (w : World) (K : PySem.W.Frag) (mg : Str → Option Value) (base : Heap) (N : List Str) (qual : Str) (scope : Scope) (f : Addr) (cd : Value) (A : Around) (outer : List Env) (s0 : Shared) (H0 : Hp) (E : XK) : Cx :=
  cxOf (CXC P w) P w K mg base N qual scope f cd A outer s0 H0 E
theorem raisedC {pins : List (Addr × Obj)} {σ : St} {H : Hp} {s : Shared} {h1 : Heap} {ea C : Addr} {vs : List Value} (I : Inv (XC P w K mg base N qual scope f cd A outer s0 H0 E) pins σ H s) (m : Heap.MadeExcOf s.heap h1 ea (.ref C) vs) (q : E (.ref C) none H) :
    (XC P w K mg base N qual scope f cd A outer s0 H0 E).xe (.ref ea) { s with heap := h1 } := by
  have stk : s.heap.FunFrames base (envOfC qual scope s0.heap.objs.size f cd :: outer) := I.stack
  have hin : ∀ env ∈ (envOfC qual scope s0.heap.objs.size f cd :: outer), ∀ b, env.frame = some b → b ∈ frs (envOfC qual scope s0.heap.objs.size f cd :: outer) := fun env he b hb => List.mem_filterMap.mpr ⟨env, he, hb⟩
  have U : Un (frs outer) [] H0 H s0.heap s.heap := I.base
  have nofr : ∀ b u, H b = some u → b ∉ frs (envOfC qual scope s0.heap.objs.size f cd :: outer) := fun b u e z => by
    have := I.stkFree b z
    rw [this] at e
    cases e
  have inB : ∀ b o, s.heap.get? b = some o → b ∉ frs (envOfC qual scope s0.heap.objs.size f cd :: outer) → (PySem.W.hideAll s.heap (frs (envOfC qual scope s0.heap.objs.size f cd :: outer))).get? b = some o := fun b o e n => PySem.W.hideAll_get _ e n
  show wpAny _ _ (leaving _ _) _ _ _
  refine fly_made (base := PySem.W.hideAll s.heap (frs (envOfC qual scope s0.heap.objs.size f cd :: outer))) I.ok.frames rfl (fun b o e => PySem.W.of_hideAll _ e) (PySem.W.funFrames_hide stk hin) m fun h2 t x1 x4 => ?_
  have kept := x1.stay
  have fr : ∀ b o, s.heap.get? b = some o → b ∈ frs outer → ∃ sl, h2.get? b = some { o with slots := sl } := fun b o e hb => by
    obtain ⟨_, o', ho', nf⟩ := stk.mem (b := b) (List.mem_cons_of_mem _ hb)
    rw [e] at ho'
    cases ho'
    exact x4 b o (m.keeps _ _ e) nf
  refine ⟨ea, C, t, _, H, rfl, I.os, I.bare, ⟨fun b o e n hb hx => ?_, fun b o e n hb hx => ?_, U.free, fun b o e hx => ?_, U.tups, U.frzs, U.tbls⟩, fun b u e => ?_, x1, ⟨fun b o e hb => ?_, fun b u e => ?_⟩, q⟩
  · exact kept b o (inB b o (U.keep b o e n hb hx) (young e hb))
  · obtain ⟨sl, e1⟩ := U.slot b o e n hb hx
    obtain ⟨sl', e2⟩ := fr b _ e1 hb
    exact ⟨sl', e2⟩
  · obtain ⟨o1, e1⟩ := U.there b o e hx
    by_cases hb : b ∈ frs outer
    · obtain ⟨sl, e2⟩ := fr b _ e1 hb
      exact ⟨_, e2⟩
    · exact ⟨o1, kept b o1 (inB b o1 e1 (young e hb))⟩
  · refine (I.hok b u e).stay (fun c o hc e1 => kept c o (inB c o e1 ?_)) (fun _ r => r) fun _ _ r => r
    rcases hc with rfl | hc
    · exact nofr _ _ e
    · exact nofr _ _ hc
  · obtain ⟨o1, e1⟩ := U.there b o e (by simp)
    refine ⟨o1, inB b o1 e1 (young e hb), fun n => ?_⟩
    have := U.keep b o e n hb (by simp)
    rw [e1] at this
    exact Option.some.inj this
  · obtain ⟨o, e1⟩ := (I.hok b u e).ex
    exact ⟨o, inB b o e1 (nofr b u e)⟩
/-- an exception of a callee leaves this frame, too -/
theorem passC : Passes (CXC P w) (XC P w K mg base N qual scope f cd A outer s0 H0 E) E := by
  intro pins σ H s e s' I h
  obtain ⟨ea, C, t, B, H', rfl, os, bare, un, hok, fl, cov, q⟩ := h
  have U : Un (frs outer) [] H0 H s0.heap s.heap := I.base
  show wpAny _ _ (leaving _ _) _ _ _
  refine fly_leaves (base := B) I.ok.frames rfl fl fun h2 x1 x2 => ?_
  have kept := x1.stay
  have fr : ∀ b o, s'.heap.get? b = some o → b ∈ frs outer → ∃ sl, h2.get? b = some { o with slots := sl } := fun b o e hb => by
    obtain ⟨_, o', ho', nf⟩ := fl.fun_.mem (b := b) (List.mem_cons_of_mem _ hb)
    rw [e] at ho'
    cases ho'
    exact x2 b o e nf
  refine ⟨ea, C, t, B, H', rfl, os.trans I.os, bare, ⟨fun b o e n hb hx => ?_, fun b o e n hb hx => ?_, fun b o e n hx => ?_, fun b o e hx => ?_, fun b xs e => un.tups b xs (U.tups b xs e), fun b o u e => un.frzs b o u (U.frzs b o u e), fun b ps e => ?_⟩, fun b u e => ?_, x1, ⟨fun b o e hb => ?_, cov.trk⟩, q⟩
  · obtain ⟨o', e2, z⟩ := cov.old b o (U.keep b o e n hb hx) (young e hb)
    rw [z (U.free b o e n hx)] at e2
    exact kept b o e2
  · obtain ⟨sl, e1⟩ := U.slot b o e n hb hx
    obtain ⟨sl', e2⟩ := un.slot b _ e1 (U.free b o e n hx) (List.mem_cons_of_mem _ hb) hx
    obtain ⟨sl2, e3⟩ := fr b _ e2 hb
    exact ⟨sl2, e3⟩
  · obtain ⟨o1, e1⟩ := U.there b o e hx
    exact un.free b o1 e1 (U.free b o e n hx) hx
  · obtain ⟨o1, e1⟩ := U.there b o e hx
    by_cases hb : b ∈ frs outer
    · obtain ⟨o2, e2⟩ := un.there b o1 e1 hx
      obtain ⟨sl, e3⟩ := fr b _ e2 hb
      exact ⟨_, e3⟩
    · obtain ⟨o', e2, _⟩ := cov.old b o1 e1 (young e hb)
      exact ⟨o', kept b o' e2⟩
  · obtain ⟨m1, e1⟩ := U.tbls b ps e
    obtain ⟨m2, e2⟩ := un.tbls b _ e1
    exact ⟨m1 ++ m2, by rw [e2, Array.append_assoc]⟩
  · refine (hok b u e).stay (fun c o hc e1 => ?_) (fun _ r => r) fun _ _ r => r
    have ht : ∃ o, B.get? c = some o := by
      rcases hc with rfl | hc
      · exact cov.trk _ _ e
      · exact cov.trk _ _ hc
    obtain ⟨o1, e2⟩ := ht
    have := fl.stay c o1 e2
    rw [e1] at this
    cases this
    exact kept c o e2
  · obtain ⟨o1, e1⟩ := U.there b o e (by simp)
    obtain ⟨o', e2, z⟩ := cov.old b o1 e1 (young e hb)
    refine ⟨o', e2, fun n => ?_⟩
    have := U.keep b o e n hb (by simp)
    rw [e1] at this
    rw [z (U.free b o e n (by simp))]
    exact Option.some.inj this
theorem passOwnC : PassesOwn (model P w) (XC P w K mg base N qual scope f cd A outer s0 H0 E).A (XC P w K mg base N qual scope f cd A outer s0 H0 E).env (XC P w K mg base N qual scope f cd A outer s0 H0 E).xe := PassesOwn.leaving
end
section
variable {P : Program} {w : World} {K : PySem.W.Frag} {mg : Str → Option Value} {base : Heap}
/-- the rule for a def that may raise -/
theorem Fun.okC {x qual : Str} {st : Stmt} {f : Addr} {fd : FuncData} {N ps : List Str} {k : Nat} {sp : Sp} (F : Fun K x qual st f fd) (S : FnScope N ps (defScope st)) (len : ∀ vs H Q E, sp vs H Q E → vs.length = ps.length)
    (hbody : ∀ (cdv : Value) (A : Around) (outer : List Env) (s : Shared) (H : Hp) (vs : List V) (Q : VK) (E : XK), Room k (A.deeper (envOfC qual (defScope st) s.heap.objs.size f cdv)) → sp vs H Q E →
      ∃ t, PSs (XC P w K mg base N qual (defScope st) f cdv A outer s H E) (defBody st) t ∧ t { nx := fun _ H' => Q .non H', rt := Q } (start N vs) H) : FnOk P w K mg base (CXC P w) (k + 1) f fd ps sp := by
  obtain ⟨oc, od, kV, doc, pm, an, cdv, ct, osl, rfl, lk, hcd⟩ := F.ex
  exact fn_of lk hcd S len fun A outer s H vs Q E hr hsp => hbody cdv A outer s H vs Q E hr hsp
end
section
variable {P : Program} {w : World} {K : PySem.W.Frag} {mg : Str → Option Value} {base : Heap} {N : List Str} {qual : Str} {scope : Scope} {f : Addr} {cd : Value} {A : Around} {outer : List Env} {s0 : Shared} {H0 : Hp} {E : XK}
theorem ps_raiseC {x : Str} {C : Addr} {a : Expr} {ta : TA} {np cpos pos : Pos} (e : Exc K mg x C) (hg : Gl (XC P w K mg base N qual scope f cd A outer s0 H0 E) x) (ha : PA (XC P w K mg base N qual scope f cd A outer s0 H0 E) [a] ta)
    (hdb : (x == ("__debug__" : Str)) = false := by decide)
    (he : starEach [a] (XC P w K mg base N qual scope f cd A outer s0 H0 E).env = [(false, eval a (XC P w K mg base N qual scope f cd A outer s0 H0 E).env)] := by rfl) :
    PS (XC P w K mg base N qual scope f cd A outer s0 H0 E) (.Raise (some (.Call (.Name x np) [a] [] cpos)) none pos) (tRaise C E ta) := by
  intro pins s σ H D I h
  obtain ⟨bm, N', nm, qn, bs, hdct, sn, sub, ab, col, dd, k0, k1, k2, k3, k5, mN, hC, hN, hni, T⟩ := exc_obj I.mod.kin e.q
  refine wpAny_Raise_call_subU (C := C) (nm := nm) (q := qn) (N := N') (bs := bs) (bm := bm) (hdct := hdct) (sn := sn) (sub := sub) (ab := ab) (col := col) (dd := dd) (k0 := k0) (k1 := k1) (k2 := k2) (k3 := k3) (k5 := k5)
    PySem.F.excBase_ValueError PySem.F.excBase_ValueError.hasB PySem.F.excBase_ValueError (mN := mN) (T.hasType PySem.F.excBase_ValueError.hasBase) (I.ok.hd rfl) (by rw [he]; rfl) hni (ld_glob I hg e.m ⟨rfl, ?_⟩ hdb)
  have h2 := ha cpos pins s σ H _ I h
  rw [he] at h2 ⊢
  refine Calls.evalArgs_plain (thn h2 fun us s2 ⟨vs, H2, I2, r2, q1, q2⟩ => ⟨rfl, ?_, I2.bk _ _ hC, hN.keeps I2.bk, T.keeps I2.bk, fun h' ea m => raisedC I2 m q2⟩)
  rw [← r2.length]
  exact q1
end
end L2
namespace L2
open PySem PySem.Spec PyProof.Rows PySem.W
/-- an exception of the class at C, without a context -/
def excN (ea C : Addr) : HO := .ext fun h => ∃ o vs, h.get? ea = some o ∧ o.cls = .ref C ∧ o.data = .fields vs ∧ vs[2]? = some Value.none
section
variable {X : Cx} {pins : List (Addr × Obj)} {σ : St} {H : Hp} {s : Shared} {ea : Addr}
/-- an exception has come to this frame; it is tracked from now on -/
theorem landedC {C t : Addr} {B : Heap} {H' : Hp} {s' : Shared} {h6 : Heap} (I : Inv X pins σ H s) (os : s'.os = s.os) (bare : AllBare s'.gens) (un : Un (frs X.stack) [] H H' s.heap s'.heap) (hok : HOk X.prog X.w H' s'.heap)
    (fl : FlyC B X.stack ea (.ref C) (.ref t) .none s'.heap) (cov : Cov B (frs X.stack) H H' s.heap) (fl6 : FlyC B X.stack ea (.ref C) (.ref t) .none h6) (up : s'.heap.UpToSlots h6) :
    H' ea = none ∧ Inv X pins σ (upd H' ea (excN ea C)) { s' with heap := h6 } := by
  have nea : H' ea = none := by
    cases q : H' ea with
    | none => rfl
    | some u =>
      obtain ⟨o, e⟩ := cov.trk ea u q
      rw [fl.new] at e
      cases e
  obtain ⟨oe, vs, _, _, _, hoe, hoc, hod, _, hon, _⟩ := fl6.tr
  have fresh : s.heap.get? ea = none := by
    cases q : s.heap.get? ea with
    | none => rfl
    | some o =>
      by_cases hb : ea ∈ frs X.stack
      · obtain ⟨_, o', ho', nf⟩ := fl6.fun_.mem hb
        rw [hoe] at ho'
        cases ho'
        exact absurd hod (nf vs)
      · obtain ⟨o', e, _⟩ := cov.old ea o q hb
        rw [fl.new] at e
        cases e
  have fr : ∀ b o, s'.heap.get? b = some o → b ∈ frs X.stack → ∃ sl, h6.get? b = some { o with slots := sl } := fun b o e hb => by
    obtain ⟨_, o', ho', nf⟩ := fl.fun_.mem hb
    rw [e] at ho'
    cases ho'
    exact up b o e nf
  have ne : ∀ b u, H' b = some u → b ≠ ea := fun b u e => ne_of_none e nea
  refine ⟨nea, I.call' (ch := []) os ⟨fun b o e n hb hx => ?_, fun b o e n hb hx => ?_, fun b o e n hx => ?_, fun b o e hx => ?_, fun b xs e => ?_, fun b o u e => ?_, fun b ps e => ?_⟩ (fun b u e => ?_) bare fun b z => absurd z (by simp)⟩
  · obtain ⟨o', e2, z⟩ := cov.old b o e hb
    rw [z n] at e2
    exact fl6.stay b o e2
  · obtain ⟨sl, e1⟩ := un.slot b o e n hb hx
    obtain ⟨sl2, e2⟩ := fr b _ e1 hb
    exact ⟨sl2, e2⟩
  · have : b ≠ ea := fun z => by rw [z, fresh] at e; cases e
    rw [upd_ne this]
    exact un.free b o e n hx
  · by_cases hb : b ∈ frs X.stack
    · obtain ⟨o1, e1⟩ := un.there b o e hx
      obtain ⟨sl, e2⟩ := fr b _ e1 hb
      exact ⟨_, e2⟩
    · obtain ⟨o', e2, _⟩ := cov.old b o e hb
      exact ⟨o', fl6.stay b o' e2⟩
  · have q := un.tups b xs e
    rw [upd_ne (ne b _ q)]
    exact q
  · have q := un.frzs b o u e
    rw [upd_ne (ne b _ q)]
    exact q
  · obtain ⟨more, q⟩ := un.tbls b ps e
    exact ⟨more, by rw [upd_ne (ne b _ q)]; exact q⟩
  · by_cases hb : b = ea
    · subst hb
      rw [upd_same] at e
      cases e
      refine ⟨⟨oe, vs, hoe, hoc, hod, hon⟩, ⟨oe, hoe⟩, fun h1 h2 p k => ?_⟩
      obtain ⟨o, ws, e1, e2, e3, e4⟩ := p
      exact ⟨o, ws, k o e1, e2, e3, e4⟩
    · rw [upd_ne hb] at e
      refine (hok b u e).stay (fun c o hc e1 => ?_) (fun c r => by rw [upd_ne (ne c _ r)]; exact r) fun c xs r => by rw [upd_ne (ne c _ r)]; exact r
      have ht : ∃ o, B.get? c = some o := by
        rcases hc with rfl | hc
        · exact cov.trk _ _ e
        · exact cov.trk _ _ hc
      obtain ⟨o1, e2⟩ := ht
      have := fl.stay c o1 e2
      rw [e1] at this
      cases this
      exact fl6.stay c o e2
end
/-- within the suite of a try: the pins lie in the context, what flies out is told -/
def Cx.trC (X : Cx) (pins : List (Addr × Obj)) (E : XK) : Cx := { X with pn := X.pn ++ pins, xe := fun e s' => ∃ σ H s, Inv X pins σ H s ∧ CXC X.prog X.w X.stack H s E e s' }
section
variable {X : Cx} {pins pins' : List (Addr × Obj)} {E : XK} {σ : St} {H : Hp} {s : Shared}
theorem Cx.Ok.trC (ok : X.Ok) : (X.trC pins E).Ok :=
  ⟨ok.mod, ok.kind, ok.glob, ok.blt, ok.above, ok.inj, ok.has, ok.cab, ok.hd, ok.frames, ok.stk, ok.exf, ok.bs, ok.bsz, ok.noex, ok.exfs, ok.funs, ok.frf⟩
theorem Cx.Ok.untrC (ok : (X.trC pins E).Ok) : X.Ok :=
  ⟨ok.mod, ok.kind, ok.glob, ok.blt, ok.above, ok.inj, ok.has, ok.cab, ok.hd, ok.frames, ok.stk, ok.exf, ok.bs, ok.bsz, ok.noex, ok.exfs, ok.funs, ok.frf⟩
theorem Inv.trC (I : Inv X pins σ H s) : Inv (X.trC pins E) [] σ H s :=
  ⟨I.ok.trC, I.os, I.bare, I.base, I.loc, I.cell, I.free, I.freeC, fun p hp => I.pin p (by
    have hp' : p ∈ (X.pn ++ pins) ++ [] := hp
    rwa [List.append_nil] at hp'), I.hok, I.len⟩
theorem Inv.untrC (I : Inv (X.trC pins E) pins' σ H s) : Inv X pins σ H s :=
  ⟨I.ok.untrC, I.os, I.bare, I.base, I.loc, I.cell, I.free, I.freeC, fun p hp => I.pin p (List.mem_append_left _ hp), I.hok, I.len⟩
theorem passTC : Passes (CXC X.prog X.w) (X.trC pins E) E := fun _ σ H s _ _ I h => ⟨σ, H, s, I.untrC, h⟩
theorem SP.untrC {D : Ends} {f : Flow} {s' : Shared} (h : SP (X.trC pins E) [] D f s') : SP X pins D f s' := by
  cases f with
  | next => obtain ⟨σ, H, I, q⟩ := h; exact ⟨σ, H, I.untrC, q⟩
  | ret v => obtain ⟨x, σ, H, I, r, q⟩ := h; exact ⟨x, σ, H, I.untrC, r, q⟩
  | brk => obtain ⟨σ, H, I, q⟩ := h; exact ⟨σ, H, I.untrC, q⟩
  | cont => obtain ⟨σ, H, I, q⟩ := h; exact ⟨σ, H, I.untrC, q⟩
end
def PHC (X : Cx) (hs : List ExceptHandler) (th : TH) : Prop := ∀ (pins : List (Addr × Obj)) (ea C t : Addr) (B : Heap) (H' : Hp) (s' : Shared) (σ : St) (D : Ends) (h5 : Heap),
  (∀ h6, FlyC B X.stack ea (.ref C) (.ref t) .none h6 → s'.heap.UpToSlots h6 → Inv X pins σ (upd H' ea (excN ea C)) { s' with heap := h6 }) →
  FlyC B X.stack ea (.ref C) (.ref t) .none h5 → s'.heap.UpToSlots h5 → H' ea = none → th C D σ H' →
  wpAny (model X.prog X.w) X.A (handleBy (.ref ea) X.env hs) (SP X pins D) X.xe { s' with heap := h5 }
theorem phc_nil {X : Cx} : PHC X [] hNil := fun _ _ _ _ _ _ _ _ _ _ _ _ _ _ z => z.elim
theorem ps_tryC {X : Cx} {body : List Stmt} {h0 : ExceptHandler} {hs : List ExceptHandler} {pos : Pos} {tb : XK → TS} {th : TH} (hst : X.stack = X.env :: X.outer) (hfr : X.env.frame = some X.env.locals)
    (hb : ∀ pins E, PSs (X.trC pins E) body (tb E)) (hh : PHC X (h0 :: hs) th) : PS X (.Try body (h0 :: hs) [] [] pos) (tTryG tb th) := by
  intro pins s σ H D I h
  refine wpAny_Try_except ?_
  refine wpAny_mono (hb pins _ [] s σ H D I.trC h) (fun fw s1 q => ?_) fun e s1 q => ?_
  · have q' := q.untrC
    cases fw with
    | next => exact wpAny_execs_nil q'
    | ret v => exact q'
    | brk => exact q'
    | cont => exact q'
  · obtain ⟨σ1, H1, s0, I1, ea, C', t', B, H', rfl, os, bare, un, hok, fl, cov, C, eC, q2⟩ := q
    cases eC
    have frm : X.A.frames = some (X.env :: X.outer) := by rw [← hst]; exact I.ok.frames
    refine fly_note (base := B) frm hfr (by rw [← hst]; exact fl) fun h4 held up4 => fly_set (s := { s1 with heap := h4 }) (f := none) held fun h5 fl5 up5 => ?_
    have fl5' : FlyC B X.stack ea (.ref C') (.ref t') .none h5 := by rw [hst]; exact fl5
    obtain ⟨nea, _⟩ := landedC I1 os bare un hok fl cov fl5' (up4.trans up5)
    exact hh pins ea C' t' B H' s1 σ1 D h5 (fun h6 fl6 up6 => (landedC I1 os bare un hok fl cov fl6 up6).2) fl5' (up4.trans up5) nea (q2 σ1 (by rw [I1.len, I.len]))
end L2

set_option Elab.async false
set_option linter.all false
set_option maxRecDepth 100000
set_option maxHeartbeats 4000000
namespace L2
open PySem PySem.Spec PyProof.Rows PySem.W
section
variable {P : Program} {w : World} {K : PySem.W.Frag} {mg : Str → Option Value} {base : Heap} {N : List Str} {qual : Str} {scope : Scope} {f : Addr} {cd : Value} {A : Around} {outer : List Env} {s0 : Shared} {H0 : Hp} {E : XK}
theorem raisedF {pins : List (Addr × Obj)} {σ : St} {H : Hp} {s : Shared} {h1 : Heap} {ea C : Addr} {t : Addr} {x2 x3 x4 x5 : Value} {hd : Option Value} (I : Inv (X1 P w K mg base N qual scope f cd A outer s0 H0 E) pins σ H s) (mk : ∀ b o, s.heap.get? b = some o → h1.get? b = some o) (mn : s.heap.get? ea = none) (me : h1.get? ea = some { cls := .ref C, data := .fields #[.ref t, .none, x2, x3, x4, x5] }) (q : E (.ref C) none H) :
    notedBy (model P w) ((X1 P w K mg base N qual scope f cd A outer s0 H0 E).A.mark hd) (X1 P w K mg base N qual scope f cd A outer s0 H0 E).env (cameBackBy (model P w) (X1 P w K mg base N qual scope f cd A outer s0 H0 E).A (X1 P w K mg base N qual scope f cd A outer s0 H0 E).env (X1 P w K mg base N qual scope f cd A outer s0 H0 E).xe) (.ref ea) { s with heap := h1 } := by
  have stk : s.heap.FunFrames base (envOfC qual scope s0.heap.objs.size f cd :: outer) := I.stack
  have hin : ∀ env ∈ (envOfC qual scope s0.heap.objs.size f cd :: outer), ∀ b, env.frame = some b → b ∈ frs (envOfC qual scope s0.heap.objs.size f cd :: outer) := fun env he b hb => List.mem_filterMap.mpr ⟨env, he, hb⟩
  have U : Un (frs outer) [] H0 H s0.heap s.heap := I.base
  have nofr : ∀ b u, H b = some u → b ∉ frs (envOfC qual scope s0.heap.objs.size f cd :: outer) := fun b u e z => by
    have := I.stkFree b z
    rw [this] at e
    cases e
  have inB : ∀ b o, s.heap.get? b = some o → b ∉ frs (envOfC qual scope s0.heap.objs.size f cd :: outer) → (PySem.W.hideAll s.heap (frs (envOfC qual scope s0.heap.objs.size f cd :: outer))).get? b = some o := fun b o e n => PySem.W.hideAll_get _ e n
  have st : (PySem.W.hideAll s.heap (frs (envOfC qual scope s0.heap.objs.size f cd :: outer))).StaysIn s.heap := fun b o e => PySem.W.of_hideAll _ e
  have nw : (PySem.W.hideAll s.heap (frs (envOfC qual scope s0.heap.objs.size f cd :: outer))).get? ea = none := by
    cases q : (PySem.W.hideAll s.heap (frs (envOfC qual scope s0.heap.objs.size f cd :: outer))).get? ea with
    | none => rfl
    | some o =>
      have z := st ea o q
      rw [mn] at z
      cases z
  refine fly_out (M := model P w) (A := A.deeper (envOfC qual scope s0.heap.objs.size f cd)) (A' := (A.deeper (envOfC qual scope s0.heap.objs.size f cd)).mark hd) (Qx := fun e _ s'' => CX1 P w outer H0 s0 E e s'') (Ex := fun _ e' s'' => CX1 P w outer H0 s0 E e' s'') (s := { s with heap := h1 }) (base := PySem.W.hideAll s.heap (frs (envOfC qual scope s0.heap.objs.size f cd :: outer))) I.ok.frames rfl (fun b o e => mk b o (st b o e)) nw ((PySem.W.funFrames_hide stk hin).of_keeps fun b o e _ => ⟨o, mk b o e, rfl⟩) me rfl rfl rfl rfl fun h2 y1 x4 => ?_
  have x1 := y1.w
  have kept := x1.1
  have fr : ∀ b o, s.heap.get? b = some o → b ∈ frs outer → ∃ sl, h2.get? b = some { o with slots := sl } := fun b o e hb => by
    obtain ⟨_, o', ho', nf⟩ := stk.mem (b := b) (List.mem_cons_of_mem _ hb)
    rw [e] at ho'
    cases ho'
    exact x4 b o (mk _ _ e) nf
  refine ⟨ea, C, t, _, H, rfl, I.os, I.bare, ⟨fun b o e n hb hx => ?_, fun b o e n hb hx => ?_, U.free, fun b o e hx => ?_, U.tups, U.frzs, U.tbls⟩, fun b u e => ?_, x1, ⟨fun b o e hb => ?_, fun b u e => ?_⟩, q⟩
  · exact kept b o (inB b o (U.keep b o e n hb hx) (young e hb))
  · obtain ⟨sl, e1⟩ := U.slot b o e n hb hx
    obtain ⟨sl', e2⟩ := fr b _ e1 hb
    exact ⟨sl', e2⟩
  · obtain ⟨o1, e1⟩ := U.there b o e hx
    by_cases hb : b ∈ frs outer
    · obtain ⟨sl, e2⟩ := fr b _ e1 hb
      exact ⟨_, e2⟩
    · exact ⟨o1, kept b o1 (inB b o1 e1 (young e hb))⟩
  · refine (I.hok b u e).stay (fun c o hc e1 => kept c o (inB c o e1 ?_)) (fun _ r => r) fun _ _ r => r
    rcases hc with rfl | hc
    · exact nofr _ _ e
    · exact nofr _ _ hc
  · obtain ⟨o1, e1⟩ := U.there b o e (by simp)
    refine ⟨o1, inB b o1 e1 (young e hb), fun n => ?_⟩
    have := U.keep b o e n hb (by simp)
    rw [e1] at this
    exact Option.some.inj this
  · obtain ⟨o, e1⟩ := (I.hok b u e).ex
    exact ⟨o, inB b o e1 (nofr b u e)⟩
/-- except Cw: raise C2(a) from None -/
def hRz (K : PySem.W.Frag) (Cw C2 : Addr) (E : XK) (ta : TA) (th : TH) : TH := fun C D σ H => ∃ b, kitOne K (.ref C) (.ref Cw) = some b ∧ if b = true then (∀ ea, H ea = none →
  ta σ (upd H ea (excN ea C)) fun vs H1 => vs.length ≤ sizeLine ∧ H1 ea = some (excN ea C) ∧ E (.ref C2) none H1) else th C D σ H
theorem phc_raise {Cw C2 : Addr} {cx x : Str} {np hpos np2 cpos cp pos : Pos} {j : Nat} {a : Expr} {ta : TA} {rest : List ExceptHandler} {th : TH}
    (ex : Exc K mg cx Cw) (exk : ExcK K Cw) (hgc : Gl (X1 P w K mg base N qual scope f cd A outer s0 H0 E) cx) (e2 : Exc K mg x C2) (hg : Gl (X1 P w K mg base N qual scope f cd A outer s0 H0 E) x)
    (ha : ∀ ea, PA ((X1 P w K mg base N qual scope f cd A outer s0 H0 E).suite ea) [a] ta) (hr : PHC (X1 P w K mg base N qual scope f cd A outer s0 H0 E) rest th)
    (hdc : (cx == ("__debug__" : Str)) = false := by decide) (hdb : (x == ("__debug__" : Str)) = false := by decide)
    (he : starEach [a] (X1 P w K mg base N qual scope f cd A outer s0 H0 E).env = [(false, eval a (X1 P w K mg base N qual scope f cd A outer s0 H0 E).env)] := by rfl) :
    PHC (X1 P w K mg base N qual scope f cd A outer s0 H0 E) (.ExceptHandler (some (.Name cx np)) none [.Raise (some (.Call (.Name x np2) [a] [] cpos)) (some (.Constant .none j cp)) pos] hpos :: rest) (hRz K Cw C2 E ta th) := by
  intro pins ea C t B H' s' σ D h5 L fl5 up5 nea q
  obtain ⟨b, hsub, q⟩ := q
  have I5 := L h5 fl5 up5
  refine wpAny_handleBy_cons (codeAny_handlers_test (ld_glob (X := (X1 P w K mg base N qual scope f cd A outer s0 H0 E).suite ea) I5.suite hgc ex.m ?_ hdc)) (by intro z; cases z)
  refine exm_ok ex exk I5 fl5.w hsub ?_
  cases b with
  | false =>
    rw [if_neg Bool.false_ne_true] at q
    exact hr pins ea C t B H' s' σ D h5 L fl5 up5 nea q
  | true =>
    rw [if_pos rfl] at q
    refine codeAny_handlers_suite ?_
    refine fly_set (s := { s' with heap := h5 }) (f := none) fl5 fun h6 fl6 up6 => ?_
    have I6 := L h6 fl6 (up5.trans up6)
    refine wpAny_execs_cons ?_
    obtain ⟨bm, N', nm, qn, bs, hdct, sn, sub, ab, col, dd, k0, k1, k2, k3, k5, mN, hC, hN, hni, T⟩ := exc_obj I6.mod.kin e2.q
    refine exec_raise_none (C := C2) (nm := nm) (q := qn) (N := N') (bs := bs) (bm := bm) (hdct := hdct) (sn := sn) (sub := sub) (ab := ab) (col := col) (dd := dd) (k0 := k0) (k1 := k1) (k2 := k2) (k3 := k3) (k5 := k5) (mN := mN) (ea := ea)
      PySem.F.excBase_ValueError PySem.F.excBase_ValueError.hasB PySem.F.excBase_ValueError (T.hasType PySem.F.excBase_ValueError.hasBase) rfl (by rw [he]; rfl) hni (ld_glob (X := (X1 P w K mg base N qual scope f cd A outer s0 H0 E).suite ea) I6.suite hg e2.m ⟨rfl, ?_⟩ hdb)
    have h2 := ha ea cpos pins _ σ _ _ I6.suite (q ea nea)
    rw [show starEach [a] ((X1 P w K mg base N qual scope f cd A outer s0 H0 E).suite ea).env = _ from he] at h2
    rw [he]
    refine Calls.evalArgs_plain (wpAny_mono h2 (fun us s2 z => ?_) fun _ _ z => False.elim z)
    obtain ⟨vs, H2, I2', r2, q1, q3, q2⟩ := z
    have I2 := I2'.unsuite I6.ok
    obtain ⟨⟨o, ws, w1, _, w3, w4⟩, _⟩ := I2.hok ea _ q3
    refine ⟨rfl, ?_, I2.bk _ _ hC, hN.keeps I2.bk, T.keeps I2.bk, ⟨o, ws, w1, w3, w4⟩, fun h1 e t m1 m2 _ _ m5 => raisedF I2 m1 m2 m5 q2⟩
    rw [← r2.length]
    exact q1
end
section
variable {P : Program} {w : World} {K : PySem.W.Frag} {mg : Str → Option Value} {base : Heap} {N : List Str} {qual : Str} {scope : Scope} {f : Addr} {cd : Value} {A : Around} {outer : List Env} {s0 : Shared} {H0 : Hp} {E : XK}
theorem passNC {X : Cx} : Passes (CXC P w) X (fun _ _ _ => False) := fun pins σ H s e s' I h => passN pins σ H s e s' I h.weak
end
end L2

set_option Elab.async false
set_option linter.all false
set_option maxRecDepth 100000
set_option maxHeartbeats 4000000
namespace L2
open PySem PySem.Spec PyProof.Rows PySem.W
/-! ### an exception that leaves a comprehension's item -/
section
variable {M : Model} {A : Around} {E : Value → Shared → Prop} {s : Shared} {base : Heap} {outer : List Env} {env : Env} {e L : Addr} {cls a0 cx fl : Value} {Q : Unit → Shared → Prop}
theorem fly_note_any (fr : A.frames = some (env :: outer)) (ef : env.frame = some L) (y : FlyX base (env :: outer) e cls a0 cx fl s.heap)
    (k : ∀ h', FlyX base (env :: outer) e cls a0 cx (rawInt L) h' → s.heap.UpToSlots h' → Q () { s with heap := h' }) : wpAny M A (noteFrame (.ref e) env) Q E s := by
  by_cases z : fl = rawInt L
  · subst z
    exact wpAny_noteFrame_againW ef y.tr.w (k _ y (.refl _))
  obtain ⟨o, vs, T, p, ts, c1, c3, c6, c9, d1, d2, g⟩ := fly_at (M := M) (A := A) (E := E) y
  unfold noteFrame
  simp only [ef]
  refine wpAny_bind (wpAny_field c1 c3 c6 ?_)
  have n1 : (Value.ref T != Value.none) = true := by simp
  rw [if_pos n1]
  refine wpAny_bind (wpAny_field c9 d1 d2 ?_)
  have n2 : ¬ ((fl == rawInt L) = true) := by simpa using z
  rw [if_neg n2]
  refine wpAny_bind (g _ _ fun h' y' up => ?_)
  obtain ⟨st, nw, fu, o, vs, T', p, ts, c1, rfl, c3, c4, c5, c6, r⟩ := y'
  exact fly_entry (s := { s with heap := h' }) fr ef st nw fu c1 c3 c4 c5 fun h2 f2 u2 => k h2 f2 (up.trans u2)
theorem fly_leaves_any (fr : A.frames = some (env :: outer)) (ef : env.frame = some L) (y : FlyX base (env :: outer) e cls a0 cx fl s.heap)
    (k : ∀ h', FlyX base outer e cls a0 cx .none h' → s.heap.UpToSlots h' → Q () { s with heap := h' }) : wpAny M A (leaving env (.ref e)) Q E s := by
  unfold leaving
  refine wpAny_bind (fly_note_any fr ef y fun h1 y1 u1 => ?_)
  exact fly_set (s := { s with heap := h1 }) (f := none) y1 fun h2 y2 u2 => k h2 y2.tail (u1.trans u2)
theorem note_env {env' : Env} {x : Value} (h : env'.frame = env.frame) : noteFrame x env' = noteFrame x env := by
  unfold noteFrame PySem.frameOf
  rw [h]
end
section
variable {P : Program} {w : World} {K : PySem.W.Frag} {mg : Str → Option Value} {base : Heap} {N : List Str} {qual : Str} {scope : Scope} {f : Addr} {cd : Value} {A : Around} {outer : List Env} {s0 : Shared} {H0 : Hp} {E : XK}
theorem xe_any {pins : List (Addr × Obj)} {σ : St} {H H' : Hp} {s s' : Shared} {ea C t : Addr} {B : Heap} {ch : List Addr} {fv : Value} (I : Inv (XC P w K mg base N qual scope f cd A outer s0 H0 E) pins σ H s) (os : s'.os = s.os) (bare : AllBare s'.gens)
    (un : Un (frs (XC P w K mg base N qual scope f cd A outer s0 H0 E).stack) ch H H' s.heap s'.heap) (hok : HOk P w H' s'.heap) (fl : FlyX B (XC P w K mg base N qual scope f cd A outer s0 H0 E).stack ea (.ref C) (.ref t) .none fv s'.heap)
    (old : ∀ b o, s.heap.get? b = some o → b ∉ frs (XC P w K mg base N qual scope f cd A outer s0 H0 E).stack → b ∉ ch → ∃ o', B.get? b = some o' ∧ (H b = none → o' = o)) (trk : ∀ b u, H' b = some u → ∃ o, B.get? b = some o)
    (hch : ∀ b ∈ ch, s0.heap.objs.size ≤ b) (q : E (.ref C) none H') : (XC P w K mg base N qual scope f cd A outer s0 H0 E).xe (.ref ea) s' := by
  have nch : ∀ {b o}, s0.heap.get? b = some o → b ∉ ch := fun {b o} e z => absurd (Heap.lt_size e) (Nat.not_lt_of_le (hch b z))
  have U : Un (frs outer) [] H0 H s0.heap s.heap := I.base
  show wpAny _ _ (leaving _ _) _ _ _
  refine fly_leaves_any (base := B) I.ok.frames rfl fl fun h2 x1 x2 => ?_
  have kept := x1.stay
  have fr : ∀ b o, s'.heap.get? b = some o → b ∈ frs outer → ∃ sl, h2.get? b = some { o with slots := sl } := fun b o e hb => by
    obtain ⟨_, o', ho', nf⟩ := fl.fun_.mem (b := b) (List.mem_cons_of_mem _ hb)
    rw [e] at ho'
    cases ho'
    exact x2 b o e nf
  refine ⟨ea, C, t, B, H', rfl, os.trans I.os, bare, ⟨fun b o e n hb hx => ?_, fun b o e n hb hx => ?_, fun b o e n hx => ?_, fun b o e hx => ?_, fun b xs e => un.tups b xs (U.tups b xs e), fun b o u e => un.frzs b o u (U.frzs b o u e), fun b ps e => ?_⟩, fun b u e => ?_, x1, ⟨fun b o e hb => ?_, trk⟩, q⟩
  · obtain ⟨o', e2, z⟩ := old b o (U.keep b o e n hb hx) (young e hb) (nch e)
    rw [z (U.free b o e n hx)] at e2
    exact kept b o e2
  · obtain ⟨sl, e1⟩ := U.slot b o e n hb hx
    obtain ⟨sl', e2⟩ := un.slot b _ e1 (U.free b o e n hx) (List.mem_cons_of_mem _ hb) (nch e)
    obtain ⟨sl2, e3⟩ := fr b _ e2 hb
    exact ⟨sl2, e3⟩
  · obtain ⟨o1, e1⟩ := U.there b o e hx
    exact un.free b o1 e1 (U.free b o e n hx) (nch e)
  · obtain ⟨o1, e1⟩ := U.there b o e hx
    by_cases hb : b ∈ frs outer
    · obtain ⟨o2, e2⟩ := un.there b o1 e1 (nch e)
      obtain ⟨sl, e3⟩ := fr b _ e2 hb
      exact ⟨_, e3⟩
    · obtain ⟨o', e2, _⟩ := old b o1 e1 (young e hb) (nch e)
      exact ⟨o', kept b o' e2⟩
  · obtain ⟨m1, e1⟩ := U.tbls b ps e
    obtain ⟨m2, e2⟩ := un.tbls b _ e1
    exact ⟨m1 ++ m2, by rw [e2, Array.append_assoc]⟩
  · refine (hok b u e).stay (fun c o hc e1 => ?_) (fun _ r => r) fun _ _ r => r
    have ht : ∃ o, B.get? c = some o := by
      rcases hc with rfl | hc
      · exact trk _ _ e
      · exact trk _ _ hc
    obtain ⟨o1, e2⟩ := ht
    have := fl.stay c o1 e2
    rw [e1] at this
    cases this
    exact kept c o e2
  · obtain ⟨o1, e1⟩ := U.there b o e (by simp)
    obtain ⟨o', e2, z⟩ := old b o1 e1 (young e hb) (nch e)
    refine ⟨o', e2, fun n => ?_⟩
    have := U.keep b o e n hb (by simp)
    rw [e1] at this
    rw [z (U.free b o e n (by simp))]
    exact Option.some.inj this
theorem ff_but {h h' base base' : Heap} (kb : ∀ b, base.get? b = none → base'.get? b = none) : ∀ {l : List Env}, h.FunFrames base l → (∀ b ∈ l.filterMap (·.frame), h'.get? b = h.get? b) → h'.FunFrames base' l
  | [], _, _ => trivial
  | env :: r, x, k => by
    obtain ⟨hk, ⟨L, o, hf, hn, ho, hd⟩, hr⟩ := x
    refine ⟨hk, ⟨L, o, hf, kb L hn, (k L (by simp [hf])).trans ho, hd⟩, ff_but kb hr fun b hb => k b ?_⟩
    rw [List.filterMap_cons, hf]
    exact List.mem_cons_of_mem _ hb
def EntryC (X : Cx) (C : Addr) (s1 : Shared) (H1 : Hp) (fp : List Addr) : Prop := ∃ pins σ, Inv X pins σ H1 s1 ∧ (∀ b ∈ fp, FpOk X pins H1 b) ∧ s1.heap.objs.size ≤ C
theorem comp_pass {use : Option (Value → Sem Unit)} {Q : Value → Shared → Prop} {acc : Value} {C : Addr} {s : Shared} {H : Hp} {fp : List Addr} {N' : List Str} {sc' : Scope} {cl : List (Str × Addr)} {XE : Value → Shared → Prop}
    (en : EntryC (XC P w K mg base N qual scope f cd A outer s0 H0 E) C s H fp)
    (hx : ∀ e s', notedBy (model P w) (XC P w K mg base N qual scope f cd A outer s0 H0 E).A (compEnvC sc' cl C (XC P w K mg base N qual scope f cd A outer s0 H0 E).env)
      (fun e s' => compPost (model P w) (XC P w K mg base N qual scope f cd A outer s0 H0 E).A (XC P w K mg base N qual scope f cd A outer s0 H0 E).xe use Q acc C (.error e) s') e s' → XE e s') :
    Passes (CXC P w) ((cxComp (XC P w K mg base N qual scope f cd A outer s0 H0 E) N' sc' cl C s H fp).wish XE) E := by
  intro pins' σ' H' s' e s'' J h
  refine hx _ _ ?_
  obtain ⟨pins, σ, I, hf, gC⟩ := en
  obtain ⟨ea, Ce, t, B, H'', rfl, os, bare, un, hok, fl, cov, q⟩ := h
  have J0 : Inv (cxComp (XC P w K mg base N qual scope f cd A outer s0 H0 E) N' sc' cl C s H fp) [] σ' H' s' := J.unwish.pins_of fun p hp => absurd (show p ∈ ([] : List (Addr × Obj)) from hp) (by simp)
  have I' := I.comped hf J0
  have HC : H' C = none := J0.free
  obtain ⟨m, hn, _⟩ := id J0.loc
  obtain ⟨oC, es, ep, hoC, hdC, rC⟩ := hn
  have hoC' : s'.heap.get? C = some oC := hoC
  have nC : ∀ b ∈ frs (XC P w K mg base N qual scope f cd A outer s0 H0 E).stack, b ≠ C := fun b hb z => by
    obtain ⟨_, o, ho, _⟩ := I.stack.mem hb
    have := Heap.lt_size ho
    rw [z] at this
    exact absurd (Nat.lt_of_lt_of_le this gC) (Nat.lt_irrefl _)
  have hB : B.get? C = some oC := by
    obtain ⟨o', e1, e2⟩ := cov.old C oC hoC' fun z => nC C z rfl
    rw [e1, e2 HC]
  have HC2 : H'' C = none := un.free C oC hoC' HC (by simp)
  unfold notedBy
  rw [note_env (env' := compEnvC sc' cl C (XC P w K mg base N qual scope f cd A outer s0 H0 E).env) (env := (XC P w K mg base N qual scope f cd A outer s0 H0 E).env) rfl]
  refine fly_note (base := B) I.ok.frames rfl fl fun h1 y1 u1 => ?_
  have h1C : h1.get? C = some oC := y1.stay C oC hB
  refine ⟨m, ⟨oC, es, ep, h1C, hdC, rC⟩, fun h2 sb cenv _ => ?_⟩
  have kb : ∀ b o, (hideAll B [C]).get? b = some o → B.get? b = some o ∧ b ≠ C := fun b o e => ⟨of_hideAll _ e, fun z => by
    rw [z, hideAll_none [C] (by simp)] at e
    cases e⟩
  have bk : ∀ b o, B.get? b = some o → b ≠ C → (hideAll B [C]).get? b = some o := fun b o e n => hideAll_get [C] e (by simpa using n)
  have ny : ∀ {b o vs}, h1.get? b = some o → o.data = .fields vs → b ≠ C := fun {b o vs} e1 e2 z => by
    rw [z, h1C] at e1
    cases e1
    rw [hdC] at e2
    cases e2
  have y2 : FlyX (hideAll B [C]) (XC P w K mg base N qual scope f cd A outer s0 H0 E).stack ea (.ref Ce) (.ref t) .none (rawInt s0.heap.objs.size) h2 := by
    obtain ⟨st, nw, fu, o, vs, T, p, ts, c1, c2, c3, c4, c5, c6, c7, c8, c9, d1, d2⟩ := y1
    have hid : ∀ b, B.get? b = none → (hideAll B [C]).get? b = none := fun b e => by
      cases z : (hideAll B [C]).get? b with
      | none => rfl
      | some o =>
        have := (kb b o z).1
        rw [e] at this
        cases this
    refine ⟨fun b o e => ?_, hid _ nw, ff_but hid fu fun b hb => sb.2 b (nC b hb), o, vs, T, p, ts, ?_, c2, c3, c4, c5, c6, hid _ c7, c8, ?_, d1, d2⟩
    · obtain ⟨e1, e2⟩ := kb b o e
      exact (sb.2 b e2).trans (st b o e1)
    · exact (sb.2 ea (ny c1 c3)).trans c1
    · exact (sb.2 T (ny c9 d1)).trans c9
  unfold PySem.passOn
  obtain ⟨o, vs, T, p, ts, c1, c2, c3, c4, c5, c6, _⟩ := id y2.tr
  refine wpAny_bind (wpAny_field c1 c3 c6 ?_)
  have n1 : ¬ ((Value.ref T == Value.none) = true) := by simp
  rw [if_neg n1]
  refine wpAny_bind (fly_set (s := { s'' with heap := h2 }) (f := cenv.frame) y2 fun h3 y3 u3 => wpAny_throw ?_)
  have fr : ∀ b o, s''.heap.get? b = some o → b ∈ frs (XC P w K mg base N qual scope f cd A outer s0 H0 E).stack → ∃ sl, h3.get? b = some { o with slots := sl } := fun b o e hb => by
    obtain ⟨_, o', ho', nf⟩ := fl.fun_.mem hb
    rw [e] at ho'
    cases ho'
    obtain ⟨sl, e1⟩ := u1 b o e nf
    obtain ⟨sl2, e2⟩ := u3 b { o with slots := sl } ((sb.2 b (nC b hb)).trans e1) nf
    exact ⟨sl2, e2⟩
  have old : ∀ b o, s'.heap.get? b = some o → b ∉ frs (XC P w K mg base N qual scope f cd A outer s0 H0 E).stack → b ∉ [C] → ∃ o', (hideAll B [C]).get? b = some o' ∧ (H' b = none → o' = o) := fun b o e hb hx => by
    obtain ⟨o', e1, e2⟩ := cov.old b o e hb
    exact ⟨o', bk b o' e1 (by simpa using hx), e2⟩
  have trk : ∀ b u, H'' b = some u → ∃ o, (hideAll B [C]).get? b = some o := fun b u e => by
    obtain ⟨o, e1⟩ := cov.trk b u e
    exact ⟨o, bk b o e1 fun z => by rw [z, HC2] at e; cases e⟩
  refine xe_any (s' := { s'' with heap := h3 }) (ch := [C]) I' os bare ⟨fun b o e n hb hx => ?_, fun b o e n hb hx => ?_, fun b o e n hx => un.free b o e n (by simp), fun b o e hx => ?_, un.tups, un.frzs, un.tbls⟩ (fun b u e => ?_) y3 old trk (fun b hb => ?_) q
  · obtain ⟨o', e1, e2⟩ := old b o e hb hx
    rw [e2 n] at e1
    exact y3.stay b o e1
  · obtain ⟨sl, e1⟩ := un.slot b o e n hb (by simp)
    obtain ⟨sl2, e2⟩ := fr b _ e1 hb
    exact ⟨sl2, e2⟩
  · by_cases hb : b ∈ frs (XC P w K mg base N qual scope f cd A outer s0 H0 E).stack
    · obtain ⟨o1, e1⟩ := un.there b o e (by simp)
      obtain ⟨sl, e2⟩ := fr b o1 e1 hb
      exact ⟨_, e2⟩
    · obtain ⟨o', e1, _⟩ := old b o e hb hx
      exact ⟨o', y3.stay b o' e1⟩
  · refine (hok b u e).stay (fun c o hc e1 => ?_) (fun _ r => r) fun _ _ r => r
    have ht : ∃ u, H'' c = some u := by
      rcases hc with rfl | hc
      · exact ⟨_, e⟩
      · exact ⟨_, hc⟩
    obtain ⟨u', e3⟩ := ht
    obtain ⟨o1, e2⟩ := trk c u' e3
    have := fl.stay c o1 (kb c o1 e2).1
    rw [e1] at this
    cases this
    exact y3.stay c o e2
  · have hb' : b = C := by simpa using hb
    rw [hb']
    exact Nat.le_trans I.sz gC
end
end L2
namespace L2
open PySem PySem.Spec PyProof.Rows PySem.W
section
variable {X : Cx} {pins : List (Addr × Obj)} {σ : St} {H : Hp} {s : Shared}
theorem comp_coreR {x : Str} {px pos : Pos} {caps : List (Str × Nat)} {scope : Scope} {cl : List (Str × Addr)} {elt iter : Expr} {ifs : List Expr} {J : It} {fp : List Addr} {it : Addr} {tn : Nat → Heap → Prop} {tt : TT} {te : TE} {Qf : Addr → Hp → Prop}
    {RR : Value → Addr → Result → Shared → Prop} {E : Value → Shared → Prop} (I : Inv X pins σ H s) (hc : X.calm = true) (K0 : CompOk X x caps scope cl) (T : Turn X.prog X.w X.K (.Name x px) J fp it tn) (st : tn 0 s.heap) (hf : ∀ b ∈ fp, FpOk X pins H b)
    (ht : ∀ C s1 H1 fp1, PTs (cxComp X (x :: caps.map (·.1)) scope cl C s1 H1 fp1) ifs tt) (he : ∀ D C s1 H1 fp1, EntryC X C s1 H1 fp1 → PE ((cxComp X (x :: caps.map (·.1)) scope cl C s1 H1 fp1).wish (notedBy (model X.prog X.w) X.A (compEnvC scope cl C X.env) fun e s' => RR (.ref D) C (.error e) s')) elt te) (rd : rdComp J (capV caps σ) tt te Qf H)
    (hRR : ∀ D C s' H' m, Inv X pins σ H' s' → s'.heap.Ns C m → FpOk X pins H' C → Qf D H' → RR (.ref D) C (.ok .next) s') :
    wpAny (model X.prog X.w) X.A (newList []) (fun acc s3 => wpAny (model X.prog X.w) X.A (newFunctionEnv scope X.env.globals cl [] X.env.qual none .none (some X.env)) (fun cenv s4 =>
      codeAny (model X.prog X.w) X.A (.compStart (.ListComp elt [⟨.Name x px, iter, ifs, 0⟩] scope pos) 0 (.ref it) acc { cenv with scope := relabel scope X.env }) (RR acc cenv.locals) s4) E s3) E s := by
  have hfs : ∀ b ∈ fp, b < s.heap.objs.size := fun b hb => by
    obtain ⟨o, e, _⟩ := T.obj _ _ st b hb
    exact Heap.lt_size e
  refine wpAny_newObj_type (wpAny_newFunctionEnv K0.nocell (by intro y hy; simp at hy) (fun h1 hn1 hb1 => ?_) K0.kind)
  dsimp only at hn1 hb1 ⊢
  obtain ⟨D, eD⟩ : ∃ D : Nat, D = s.heap.objs.size := ⟨_, rfl⟩
  obtain ⟨H2, eH2⟩ : ∃ g, g = s.heap.push { cls := .type "list", dict := none, data := .seq ([] : List Value).toArray } := ⟨_, rfl⟩
  rw [← eH2] at hn1 hb1 ⊢
  rw [← eD]
  have hC : H2.objs.size = D + 1 := by rw [eH2, Heap.size_push, eD]
  have hle : s.heap.objs.size ≤ H2.objs.size := by rw [hC, eD]; exact Nat.le_succ _
  have hDC : D ≠ H2.objs.size := by rw [hC]; exact Nat.ne_of_lt (Nat.lt_succ_self _)
  have hk : ∀ b o, s.heap.get? b = some o → h1.get? b = some o := fun b o e => by
    refine hb1.extBut b o (Nat.ne_of_lt (Nat.lt_of_lt_of_le (Heap.lt_size e) hle)) (Heap.get?_push_of_some _ ?_)
    rw [eH2]
    exact Heap.get?_push_of_some _ e
  have hL : h1.get? D = some { cls := .type "list", data := .seq #[] } := by
    refine hb1.extBut D _ (by omega) (Heap.get?_push_of_some _ ?_)
    rw [eH2, eD]
    exact Heap.get?_push_size _ rfl
  have st1 : tn 0 h1 := T.keep _ _ _ st fun b _ o e => hk b o e
  obtain ⟨W, ⟨m0, w0⟩, turn⟩ := rd D (I.hok.fresh (by omega))
  have loop : codeAny (model X.prog X.w) X.A (.compLoop (.ListComp elt [⟨.Name x px, iter, ifs, 0⟩] scope pos) 0 (.ref it) (.ref D) (compEnvC scope cl H2.objs.size X.env)) (RR (.ref D) H2.objs.size) { s with heap := h1, toks := s.toks + ([] : List (Str × Value)).length } := by
    refine codeAny_compLoop_tests (fun n s' => ∃ i ys sl H', Inv (cxComp X (x :: caps.map (·.1)) scope cl H2.objs.size s H fp) [] (sl :: capV caps σ) H' s' ∧ tn i s'.heap ∧ (∀ b ∈ fp, H' b = none) ∧ W i n ys H') ?_ m0
      ⟨0, [], none, _, I.comp K0 hf hfs (by omega) (by omega) hDC hk hn1 hL, st1, fun b hb => ?_, w0⟩
    · rintro n s3 ⟨i, ys, sl, H3, I3, st3, fr3, w3⟩
      have fpc : ∀ {H' : Hp} {pi : List (Addr × Obj)}, (∀ b ∈ fp, H' b = none) → (∀ p ∈ pi, p.1 ∉ fp) → ∀ b ∈ fp, FpOk (cxComp X (x :: caps.map (·.1)) scope cl H2.objs.size s H fp) pi H' b := fun {H' pi} hn hp b hb => by
        obtain ⟨f0, f1, f2, f3, f4, f5⟩ := hf b hb
        refine ⟨hn b hb, ?_, fun z => ?_, .inl hb, fun y c e => f4 y c (K0.cls y c e), fun p hpp z => ?_⟩
        · exact Nat.ne_of_lt (Nat.lt_of_lt_of_le (hfs b hb) hle)
        · rcases List.mem_cons.mp (I.stkSub b z) with q | q
          · exact f1 q
          · exact f2 q
        · exact hp p (by simpa [cxComp] using hpp) (by rw [z]; exact hb)
      have clear : ∀ {α : Type} {t : Sem α} {Q : α → Shared → Prop} {E' : Value → Shared → Prop} {s : Shared}, wpAny (model X.prog X.w) X.A t Q (fun _ _ => False) s → wpAny (model X.prog X.w) X.A t Q E' s := fun h => wpAny_mono h (fun _ _ z => z) fun _ _ z => z.elim
      rcases turn i n ys H3 w3 with ⟨stop, qf⟩ | ⟨go, step⟩
      · refine thn (T.done (cxComp X (x :: caps.map (·.1)) scope cl H2.objs.size s H fp) rfl rfl rfl hc i [] s3 _ H3 _ I3 (fpc fr3 (by simp)) st3 stop) fun r s4 ⟨hr, I4⟩ => ?_
        subst hr
        obtain ⟨m4, hn4, _⟩ := id I4.loc
        refine hRR D _ s4 H3 m4 (I.comped hf I4) hn4 ?_ qf
        have gC : s.heap.objs.size ≤ H2.objs.size := by omega
        exact I.fpOk gC I4.free
      · refine clear (thn (T.item (cxComp X (x :: caps.map (·.1)) scope cl H2.objs.size s H fp) rfl rfl rfl hc i [] s3 _ H3 (fun _ _ => False) I3 (fpc fr3 (by simp)) st3 go) fun r s4 ⟨u, hr, h4⟩ => ?_)
        subst hr
        refine clear (show wpAny (model X.prog X.w) X.A (pure () >>= fun _ => assign (.Name x px) (compEnvC scope cl H2.objs.size X.env) u) _ _ s4 from wpAny_bind (thn (h4 : wpAny (model X.prog X.w) X.A (pure ()) _ _ s4) fun _ s5 ⟨v, H5, I5, r5, y5, st5, fr5⟩ => ?_))
        have I5' := I5.pinned (fpc fr5 (by simp)) (T.obj _ _ st5)
        have hg : PG (cxComp X (x :: caps.map (·.1)) scope cl H2.objs.size s H fp) (.Name x px) (gName 0) := pg_name (i := 0) K0.nd rfl (Or.inl (lookup_relabel_local K0.hx)) (Or.inr (lookup_relabel_local K0.hx))
        refine thn (hg _ s5 (sl :: capV caps σ) H5 v u (fun σ2 H2 => σ2 = some v :: capV caps σ ∧ H2 = H5) I5' r5 (show _ ∧ _ from ⟨rfl, rfl⟩)) fun _ s6 ⟨σ6, H6, I6, e6, e7⟩ => ?_
        subst e6 e7
        have q6 := step v _ y5
        have again : ∀ {H7 : Hp} {s7 : Shared} {sl : Option V} {zs : List V} {m' : Nat}, Inv (cxComp X (x :: caps.map (·.1)) scope cl H2.objs.size s H fp) ([] ++ pinsAt fp s5.heap) (sl :: capV caps σ) H7 s7 → m' < n → W (i + 1) m' zs H7 →
            ∃ m, m < n ∧ ∃ i ys sl H', Inv (cxComp X (x :: caps.map (·.1)) scope cl H2.objs.size s H fp) [] (sl :: capV caps σ) H' s7 ∧ tn i s7.heap ∧ (∀ b ∈ fp, H' b = none) ∧ W i m ys H' := fun {H7 s7 sl zs m'} I7 hm w7 => by
          refine ⟨m', hm, i + 1, zs, sl, H7, I7.unpinned, T.keep _ _ _ st5 fun b hb o e => (I7.pin (b, o) (List.mem_append_right _ (List.mem_append_right _ (mem_pinsAt hb e)))).1, fun b hb => ?_, w7⟩
          obtain ⟨o, e, d⟩ := T.obj _ _ st5 b hb
          exact (I7.pin (b, o) (List.mem_append_right _ (List.mem_append_right _ (mem_pinsAt hb e)))).2.1
        refine clear (thn (ht H2.objs.size s H fp _ s6 _ H6 _ I6 q6) fun ok s7 ⟨H7, I7, q7⟩ => ?_)
        cases ok with
        | false =>
          obtain ⟨m', hm, w7⟩ := (show ∃ m', m' < n ∧ W (i + 1) m' ys H7 from q7)
          exact again I7 hm w7
        | true =>
          refine thn (he D H2.objs.size s H fp ⟨pins, σ, I, hf, hle⟩ _ s7 _ H7 _ (I7.wish _) q7) fun xv s8 ⟨y, H8, I8', r8, hD8, hz8, m', hm, w8⟩ => ?_
          have I8 := I8'.unwish
          refine clear (thn (mt_append _ s8 _ H8 (.ref D) [y] (.ref D) [xv] (fun _ H9 => H9 = upd H8 D (.lst (ys ++ [y]))) I8 rfl (.cons r8 .nil) ⟨D, ys, y, rfl, rfl, hD8, hz8, rfl⟩) fun _ s9 ⟨_, H9, I9, _, e9⟩ => ?_)
          subst e9
          exact again I9 hm w8
    · rw [upd_ne (by rw [eD]; exact Nat.ne_of_lt (hfs b hb))]
      exact (hf b hb).1
  exact codeAny_compStart_list loop (T.self _ 0 _ _ _ st1 loop)

/-- a comprehension as a value -/
theorem pe_compR {x : Str} {px pos : Pos} {caps : List (Str × Nat)} {scope : Scope} {cl : List (Str × Addr)} {elt iter : Expr} {ifs : List Expr} {wi : TI} {tt : TT} {te : TE} (hc : X.calm = true) (K0 : CompOk X x caps scope cl) (hi : PI X (.Name x px) iter wi)
    (ht : ∀ C s1 H1 fp1, PTs (cxComp X (x :: caps.map (·.1)) scope cl C s1 H1 fp1) ifs tt) (he : ∀ (use : Option (Value → Sem Unit)) (Q : Value → Shared → Prop) (acc : Value) C s1 H1 fp1, EntryC X C s1 H1 fp1 → PE ((cxComp X (x :: caps.map (·.1)) scope cl C s1 H1 fp1).wish (notedBy (model X.prog X.w) X.A (compEnvC scope cl C X.env) fun e s' => compPost (model X.prog X.w) X.A X.xe use Q acc C (.error e) s')) elt te) (hs : ∀ x, foldedSetIterable iter X.env x = pure x := by intro _; rfl) :
    PE X (.ListComp elt [⟨.Name x px, iter, ifs, 0⟩] scope pos) (tComp wi caps tt te) := by
  intro pins s σ H Q I h
  rw [eval_ListComp]
  refine wpAny_comprehension_free (use := none) rfl hs K0.clos K0.kind K0.names (thn (hi pins s σ H _ I h) fun v s1 h1 => thn h1 fun itv s2 h2 => ?_)
  obtain ⟨it, fp, tn, J, H2, e, I2, T, st2, f2, rd⟩ := h2
  subst e
  refine comp_coreR (RR := fun acc C => compPost (model X.prog X.w) X.A X.xe none (EP X pins σ Q) acc C) I2 hc K0 T st2 f2 ht (fun D C s1 H1 fp1 en => he _ _ _ C s1 H1 fp1 en) rd ?_
  intro D C s' H' m I' hn fC q
  exact ⟨m, hn, fun h'' hs'' => ⟨.ref D, H', I'.turned (h' := h'') (t' := s'.toks) (fun b o hb e => hs''.extBut b o hb e) fC.1 fC.2.1 fC.2.2.2.1 fC.2.2.2.2.1 fC.2.2.2.2.2, rfl, q⟩⟩
end
end L2

set_option Elab.async false
set_option linter.all false
set_option maxRecDepth 100000
set_option maxHeartbeats 4000000
namespace Tw
open PySem L2
/-! ### expressions that make lists of whole numbers, or a whole number, with new objects only -/
def ML (H0 : Hp) (σ : St) (t : TE) (ms : List Int) : Prop := ∀ (H : Hp) (Q : VK), Same H0 H → (∀ r H', H r = none → Same H H' → H' r = some (.lst (ms.map V.int)) → Q (.ref r) H') → t σ H Q
def MI (H0 : Hp) (σ : St) (t : TE) (i : Int) : Prop := ∀ (H : Hp) (Q : VK), Same H0 H → (∀ H', Same H H' → Q (.int i) H') → t σ H Q
def MA (H0 : Hp) (σ : St) (t : TA) (ms : List Int) : Prop := ∀ (H : Hp) (Q : List V → Hp → Prop), Same H0 H → (∀ H', Same H H' → Q (ms.map V.int) H') → t σ H Q
def MO (H0 : Hp) (σ : St) (t : TO) (o : Option Int) : Prop := ∀ (H : Hp) (Q : Option Int → Hp → Prop), Same H0 H → (∀ H', Same H H' → Q o H') → t σ H Q
/-- a list that stands there -/
def MV (H0 : Hp) (σ : St) (t : TE) (ms : List Int) : Prop := ∀ (H : Hp) (Q : VK), Same H0 H → (∀ r H', Same H H' → H' r = some (.lst (ms.map V.int)) → Q (.ref r) H') → t σ H Q
variable {H0 : Hp} {σ : St} {K : PySem.W.Frag}
theorem ML.v {t : TE} {ms : List Int} (h : ML H0 σ t ms) : MV H0 σ t ms := fun H Q s q => h H Q s fun r H' _ s' x => q r H' s' x
theorem mv_var {i : Nat} {p : Addr} {ms : List Int} (e : σ[i]? = some (some (.ref p))) (hp : H0 p = some (.lst (ms.map V.int))) : MV H0 σ (tVar i) ms := fun H _ s q => ⟨_, e, q p H (.refl _) (s _ _ hp)⟩
theorem mi_var {i : Nat} {z : Int} (e : σ[i]? = some (some (.int z))) : MI H0 σ (tVar i) z := fun H _ _ q => ⟨_, e, q H (.refl _)⟩
theorem mi_c {z : Int} : MI H0 σ (tC (.int z)) z := fun H _ _ q => q H (.refl _)
theorem mi_op0 {t u : TE} {g : Int → Int → Int} {i j : Int} (h1 : MI H0 σ t i) (h2 : MI H0 σ u j) : MI H0 σ (tOp (rI0 fun i j => .int (g i j)) t u) (g i j) := fun H _ s q =>
  h1 H _ s fun H1 s1 => h2 H1 _ (s.trans s1) fun H2 s2 => ⟨_, _, rfl, rfl, q H2 (s1.trans s2)⟩
theorem mi_op {t u : TE} {C : Int → Int → Prop} {g : Int → Int → Int} {i j : Int} (h1 : MI H0 σ t i) (h2 : MI H0 σ u j) (hc : C i j) : MI H0 σ (tOp (rI C fun i j => .int (g i j)) t u) (g i j) := fun H _ s q =>
  h1 H _ s fun H1 s1 => h2 H1 _ (s.trans s1) fun H2 s2 => ⟨_, _, rfl, rfl, hc, q H2 (s1.trans s2)⟩
theorem ma_nil : MA H0 σ tNil [] := fun H _ _ q => q H (.refl _)
theorem ma_cons {t : TE} {ta : TA} {i : Int} {ms : List Int} (h1 : MI H0 σ t i) (h2 : MA H0 σ ta ms) : MA H0 σ (tCons t ta) (i :: ms) := fun H _ s q =>
  h1 H _ s fun H1 s1 => h2 H1 _ (s.trans s1) fun H2 s2 => q H2 (s1.trans s2)
theorem ml_lst {ta : TA} {ms : List Int} (h : MA H0 σ ta ms) (hl : ms.length ≤ 500000) : ML H0 σ (tLst ta) ms := fun H _ s q =>
  h H _ s fun H1 s1 => ⟨by rw [List.length_map, sizeLine_eq]; omega, fun p hp => q p _ (s1.free hp) (s1.trans (same_new hp _)) upd_same⟩
theorem ml_cat {t u : TE} {xs ys : List Int} (h1 : MV H0 σ t xs) (h2 : MV H0 σ u ys) (hl : xs.length + ys.length ≤ 500000) : ML H0 σ (tOp rCat t u) (xs ++ ys) := fun H _ s q =>
  h1 H _ s fun r1 H1 s1 x1 => h2 H1 _ (s.trans s1) fun r2 H2 s2 x2 => ⟨r1, r2, _, _, rfl, rfl, s2 _ _ x1, x2, by rw [List.length_map, List.length_map, sizeLine_eq]; omega, fun p hp => q p _ ((s1.trans s2).free hp) ((s1.trans s2).trans (same_new hp _)) (by rw [upd_same, List.map_append])⟩
theorem mo_no : MO H0 σ tNoPart none := fun H _ _ q => q H (.refl _)
theorem mo_part {t : TE} {i : Int} (h : MI H0 σ t i) : MO H0 σ (tPart t) (some i) := fun H _ s q => h H _ s fun H1 s1 => ⟨_, rfl, q H1 s1⟩
theorem ml_sl {t : TE} {tl th : TO} {ns ms : List Int} {lo hi : Option Int} (h : MV H0 σ t ns) (h1 : MO H0 σ tl lo) (h2 : MO H0 σ th hi) (e : cutV (ns.map V.int) lo hi = ms.map V.int) : ML H0 σ (tSl (rSlL K) t tl th) ms := fun H _ s q =>
  h H _ s fun r H1 s1 x1 => h1 H1 _ (s.trans s1) fun H2 s2 => h2 H2 _ (s.trans (s1.trans s2)) fun H3 s3 => ⟨r, _, rfl, SqL.of ((s2.trans s3) _ _ x1), fun p hp => q p _ ((s1.trans (s2.trans s3)).free hp) ((s1.trans (s2.trans s3)).trans (same_new hp _)) (by rw [upd_same, e])⟩
theorem ml_to {t u : TE} {ns : List Int} {i : Int} {j : Nat} (h : MV H0 σ t ns) (h1 : MI H0 σ u i) (e : i = (j : Int)) : ML H0 σ (tSl (rSlL K) t tNoPart (tPart u)) (ns.take j) := ml_sl h mo_no (mo_part h1) (by rw [e, cut_to])
theorem ml_from {t u : TE} {ns : List Int} {i : Int} {j : Nat} (h : MV H0 σ t ns) (h1 : MI H0 σ u i) (e : i = (j : Int)) : ML H0 σ (tSl (rSlL K) t (tPart u) tNoPart) (ns.drop j) := ml_sl h (mo_part h1) mo_no (by rw [e, cut_from])
theorem ml_mid {t u v : TE} {ns : List Int} {i i2 : Int} {j k : Nat} (h : MV H0 σ t ns) (h1 : MI H0 σ u i) (h2 : MI H0 σ v i2) (e : i = (j : Int)) (e2 : i2 = (k : Int)) : ML H0 σ (tSl (rSlL K) t (tPart u) (tPart v)) ((ns.drop j).take (k - j)) := ml_sl h (mo_part h1) (mo_part h2) (by rw [e, e2, cut_nat])
theorem mi_ixL {t u : TE} {ns : List Int} {i z : Int} {j : Nat} (h : MV H0 σ t ns) (h1 : MI H0 σ u i) (e : i = (j : Int)) (hz : ns[j]? = some z) : MI H0 σ (tOp (rIxL K) t u) z := fun H _ s q =>
  h H _ s fun r H1 s1 x1 => h1 H1 _ (s.trans s1) fun H2 s2 => ⟨r, _, _, _, rfl, rfl, SqL.of (s2 _ _ x1), by rw [e]; exact atI_nat (by rw [List.getElem?_map, hz]; rfl), q H2 (s1.trans s2)⟩
theorem ml_rep {t u : TE} {ns : List Int} {i : Int} {j : Nat} (h : MV H0 σ t ns) (h1 : MI H0 σ u i) (e : i = (j : Int)) (hl : ns.length * j ≤ 500000) (hj : j ≤ 500000) : ML H0 σ (tOp rRep t u) (List.replicate j ns).flatten := fun H _ s q =>
  h H _ s fun r H1 s1 x1 => h1 H1 _ (s.trans s1) fun H2 s2 => ⟨r, _, _, rfl, rfl, s2 _ _ x1, by omega, by omega, by rw [e, Int.toNat_natCast, List.length_map, sizeLine_eq]; omega, fun p hp => q p _ ((s1.trans s2).free hp) ((s1.trans s2).trans (same_new hp _)) (by rw [upd_same, e, Int.toNat_natCast, List.map_flatten, List.map_replicate])⟩
theorem ml_rev {t : TE} {ns : List Int} (h : MV H0 σ t ns) {tk : TE} (hk : MI H0 σ tk (-1)) : ML H0 σ (tRev3 K t tk) ns.reverse := fun H _ s q =>
  h H _ s fun r H1 s1 x1 => hk H1 _ (s.trans s1) fun H2 s2 => ⟨rfl, r, _, rfl, SqL.of (s2 _ _ x1), fun p hp => q p _ ((s1.trans s2).free hp) ((s1.trans s2).trans (same_new hp _)) (by rw [upd_same, List.map_reverse])⟩
theorem mi_neg {t : TE} {i : Int} (h : MI H0 σ t i) : MI H0 σ (tUn (rU fun i => .int (-i)) t) (-i) := fun H _ s q => h H _ s fun H1 s1 => ⟨_, rfl, q H1 s1⟩
theorem MI.to {t : TE} {i j : Int} (h : MI H0 σ t i) (e : i = j) : MI H0 σ t j := e ▸ h
theorem mi_len {t : TE} {ns : List Int} (h : MV H0 σ t ns) : MI H0 σ (tCB (fun xs H Q => ∃ p ys, xs = [V.ref p] ∧ (SqL K H p ys ∨ SqT K H p ys) ∧ Q (.int (ys.length : Int)) H) (tCons t tNil)) (ns.length : Int) := fun H _ s q =>
  h H _ s fun r H1 s1 x1 => ⟨r, _, rfl, .inl (SqL.of x1), by rw [List.length_map]; exact q H1 s1⟩
theorem mi_set {t : TE} {i : Nat} {z : Int} {D : Ends} {H : Hp} (h : MI H σ t z) (q : ∀ H', Same H H' → D.nx (σ.set i (some (.int z))) H') : tAsg t (gName i) D σ H := h H _ (.refl _) q
theorem ml_set {t : TE} {i : Nat} {ms : List Int} {D : Ends} {H : Hp} (h : ML H σ t ms) (q : ∀ r H', H r = none → Same H H' → H' r = some (.lst (ms.map V.int)) → D.nx (σ.set i (some (.ref r))) H') : tAsg t (gName i) D σ H := h H _ (.refl _) q
theorem ml_ret {t : TE} {ms : List Int} {D : Ends} {H : Hp} (h : ML H σ t ms) (q : ∀ r H', H r = none → Same H H' → H' r = some (.lst (ms.map V.int)) → D.rt (.ref r) H') : tRet t D σ H := h H _ (.refl _) q
/-- tests that change nothing -/
def PT (σ : St) (H : Hp) (t : TT) (F : Bool → Prop) : Prop := ∀ Q : Bool → Hp → Prop, (∀ b, F b → Q b H) → t σ H Q
theorem PT.and {H : Hp} {t u : TT} {F G : Bool → Prop} (h1 : PT σ H t F) (h2 : PT σ H u G) : PT σ H (tAnd t u) (fun b => b = true → F true ∧ G true) := fun Q q => h1 _ fun b hb => by
  cases b
  · exact iteF (q false fun z => absurd z (by decide))
  · exact iteT (h2 _ fun c hc => q c fun z => ⟨hb, by rw [← z]; exact hc⟩)
theorem PT.arm {H : Hp} {t : TT} {F : Bool → Prop} {A B : TS} {D : Ends} (h : PT σ H t F) (h1 : F true → A D σ H) (h2 : F false → B D σ H) : tIfS t A B D σ H := h _ fun b hb => by
  cases b
  · exact iteF (h2 hb)
  · exact iteT (h1 hb)
/-- tests that only add to the heap -/
def PU (H0 : Hp) (σ : St) (t : TT) (F : Bool → Prop) : Prop := ∀ (H : Hp) (Q : Bool → Hp → Prop), Same H0 H → (∀ b H', Same H H' → F b → Q b H') → t σ H Q
theorem PU.and {t u : TT} {F G : Bool → Prop} (h1 : PU H0 σ t F) (h2 : PU H0 σ u G) : PU H0 σ (tAnd t u) (fun b => b = true → F true ∧ G true) := fun H Q s q => h1 H _ s fun b H1 s1 hb => by
  cases b
  · exact iteF (q false H1 s1 fun z => absurd z (by decide))
  · exact iteT (h2 H1 _ (s.trans s1) fun c H2 s2 hc => q c H2 (s1.trans s2) fun z => ⟨hb, by rw [← z]; exact hc⟩)
theorem PU.arm {H : Hp} {t : TT} {F : Bool → Prop} {A B : TS} {D : Ends} (h : PU H σ t F) (h1 : ∀ H', Same H H' → F true → A D σ H') (h2 : ∀ H', Same H H' → F false → B D σ H') : tIfS t A B D σ H := h H _ (.refl _) fun b H1 s1 hb => by
  cases b
  · exact iteF (h2 H1 s1 hb)
  · exact iteT (h1 H1 s1 hb)
theorem pu_op {g : Int → Int → Bool} {t u : TE} {i j : Int} (h1 : MI H0 σ t i) (h2 : MI H0 σ u j) : PU H0 σ (tTest (tOp (rI0 fun i j => .bl (g i j)) t u)) (fun b => g i j = b) := fun H _ s q =>
  h1 H _ s fun H1 s1 => h2 H1 _ (s.trans s1) fun H2 s2 => ⟨_, _, rfl, rfl, _, rfl, q _ H2 (s1.trans s2) rfl⟩
theorem pu_eq {t u : TE} {i j : Int} (h1 : MI H0 σ t i) (h2 : MI H0 σ u j) : PU H0 σ (tTest (tOp rEq t u)) (fun b => decide (i = j) = b) := fun H _ s q =>
  h1 H _ s fun H1 s1 => h2 H1 _ (s.trans s1) fun H2 s2 => ⟨rfl, _, rfl, q _ H2 (s1.trans s2) (dec_int ..).symm⟩
end Tw

set_option Elab.async false
set_option linter.all false
set_option maxRecDepth 100000
set_option maxHeartbeats 4000000
namespace L2
open PySem PySem.Spec PyProof.Rows
/-! ### range(a, b, st), st from 1 to 64 -/
section
variable {X : Cx} {tg : Expr}
def iRngS (ta : TA) : TI := fun σ H R => ta σ H fun vs H1 => ∃ a b st : Nat, vs = [.int (a : Int), .int (b : Int), .int (st : Int)] ∧ a ≤ b ∧ b < 536870912 ∧ 0 < st ∧ st ≤ 64 ∧ R (Its (a : Int) (st : Int) ((b - a + (st - 1)) / st)) H1
theorem sizeS {a b st : Nat} (hab : a ≤ b) (h0 : 0 < st) : Builtin.Range.rangeSize a b st = (((b - a + (st - 1)) / st : Nat) : Int) := by
  have hs : (0 : Int) < (st : Int) := by omega
  unfold Builtin.Range.rangeSize
  rw [if_pos hs]
  by_cases h : a = b
  · subst h
    rw [Nat.sub_self, Nat.zero_add, Nat.div_eq_of_lt (by omega)]
    split <;> omega
  have e1 : b - a + (st - 1) = (b - a - 1) + st := by omega
  have e2 : (b - a - 1 + st) / st = (b - a - 1) / st + 1 := Nat.add_div_right _ h0
  rw [e1, e2, if_pos (by omega)]
  have e3 : (b : Int) - a - 1 = ((b - a - 1 : Nat) : Int) := by omega
  rw [e3, Int.natCast_add, ← Int.natCast_ediv]
  omega
theorem smallS {a b st : Nat} (hab : a ≤ b) (h : b < 536870912) (h0 : 0 < st) (h1 : st ≤ 64) : Builtin.Range.small a b st = true := by
  have hs : (0 : Int) < (st : Int) := by omega
  unfold Builtin.Range.small Builtin.Range.rangeFitsLong
  rw [sizeS hab h0]
  have hq : (b - a + (st - 1)) / st ≤ b - a + (st - 1) := Nat.div_le_self _ _
  have hm : (b - a + (st - 1)) / st * st ≤ b - a + (st - 1) := Nat.div_mul_le_self _ _
  generalize hn : (b - a + (st - 1)) / st = n at *
  have hm2 : (n : Int) * (st : Int) ≤ 536870976 := by
    have : ((n * st : Nat) : Int) ≤ 536870976 := by omega
    rw [Int.natCast_mul] at this
    exact this
  have hm3 : 0 ≤ (n : Int) * (st : Int) := Int.mul_nonneg (by omega) (by omega)
  have e : (2 : Int) ^ 63 = 9223372036854775808 := by decide
  rw [e, if_pos hs]
  refine dand (dand (dand (dand (dand (decide_eq_true ?_) (decide_eq_true ?_)) (dand (decide_eq_true ?_) (decide_eq_true ?_))) (dand (decide_eq_true ?_) (decide_eq_true ?_))) (dand (decide_eq_true ?_) (decide_eq_true ?_))) ?_
  all_goals first | omega | skip
  rw [Bool.or_eq_true]
  exact .inr (dand (decide_eq_true (by omega)) (decide_eq_true (by omega)))
theorem pi_rangeS {a b c : Expr} {ta : TA} {p pos : Pos} (hg : Gl X "range") (hm : X.mg "range" = none) (ha : PA X [a, b, c] ta) (hs : starEach [a, b, c] X.env = [(false, eval a X.env), (false, eval b X.env), (false, eval c X.env)] := by rfl)
    (hs2 : starEach [b, c] X.env = [(false, eval b X.env), (false, eval c X.env)] := by rfl) : PI X tg (.Call (.Name "range" p) [a, b, c] [] pos) (iRngS ta) := by
  intro pins s σ H R I h
  refine Call_ (ld_blt I hg hm boot_range (PyProof.Rows.callWith_type1 (thn (ha pos pins s σ H _ I h) fun us s1 ⟨vs, H1, I1, r1, q1⟩ => ?_) (by rw [hs, hs2]) (by rw [hs2]; rfl)))
  obtain ⟨x, y, st, e, l0, l1, l2, l3, q⟩ := q1
  subst e
  cases r1 with
  | cons r rr =>
    cases rr with
    | cons r' rr =>
      cases rr with
      | cons r'' rr =>
        cases rr
        obtain ⟨t, rfl⟩ := r
        obtain ⟨t', rfl⟩ := r'
        obtain ⟨t'', rfl⟩ := r''
        refine call_range_3 (by omega) ?_ (.inl (PyProof.noPylong_small (by omega)))
        refine wpAny_pyIter_range (IsRange.new ..) (smallS l0 l1 l2 l3) ?_
        have I2 : Inv X pins σ H1 { s1 with heap := s1.heap.push { cls := .type "range", data := .fields #[.int x t, .int y t', .int st t''] }, toks := s1.toks } := I1.kept fun b o e => Heap.get?_push_of_some _ e
        refine ⟨(s1.heap.push { cls := .type "range", data := .fields #[.int x t, .int y t', .int st t''] }).objs.size, [(s1.heap.push { cls := .type "range", data := .fields #[.int x t, .int y t', .int st t''] }).objs.size], _, _, H1, rfl,
          I2.kept (t' := s1.toks) fun b o e => Heap.get?_push_of_some _ e, turn_step _ x st ((y - x + (st - 1)) / st), ?_, fun b hb => ?_, q⟩
        · have e1 : (x : Int) + ((0 : Nat) : Int) * st = x := by simp
          have e2 : (((y - x + (st - 1)) / st : Nat) : Int) - ((0 : Nat) : Int) = Builtin.Range.rangeSize x y st := by rw [sizeS l0 l2]; simp
          show IsRangeIter _ _ ((x : Int) + ((0 : Nat) : Int) * st) ((((y - x + (st - 1)) / st : Nat) : Int) - ((0 : Nat) : Int)) st
          rw [e1, e2]
          exact Heap.get?_push_size _ rfl
        · have e : b = (s1.heap.push { cls := .type "range", data := .fields #[.int x t, .int y t', .int st t''] }).objs.size := by simpa using hb
          subst e
          exact I2.fpOk (Nat.le_refl _) (I2.hok.fresh (Nat.le_refl _))
end
end L2

set_option Elab.async false
set_option maxRecDepth 100000
set_option maxHeartbeats 4000000
namespace Tw
open PySem L2
def top (i : Nat) : Stmt := PySem.Challenge.pw_thinwood_k86_trees_read.main.body.getD i (.Pass ⟨0, 0, 0, 0⟩)
abbrev s_packed : Stmt := top 10
theorem sc_packed : FnScope ["bits"] ["bits"] (defScope s_packed) := ⟨rfl, rfl, rfl, by decide +kernel, rfl, by decide +kernel, by decide +kernel⟩
abbrev s_check_row : Stmt := top 11
theorem sc_check_row : FnScope ["bits", "bit"] ["bits"] (defScope s_check_row) := ⟨rfl, rfl, rfl, by decide +kernel, rfl, by decide +kernel, by decide +kernel⟩
abbrev s_block_of : Stmt := top 12
theorem sc_block_of : FnScope ["bits", "block", "bit"] ["bits"] (defScope s_block_of) := ⟨rfl, rfl, rfl, by decide +kernel, rfl, by decide +kernel, by decide +kernel⟩
abbrev s_unpacked : Stmt := top 13
theorem sc_unpacked : FnScope ["blocks", "many", "bits", "block"] ["blocks", "many"] (defScope s_unpacked) := ⟨rfl, rfl, rfl, by decide +kernel, rfl, by decide +kernel, by decide +kernel⟩
abbrev s_bit_in : Stmt := top 14
theorem sc_bit_in : FnScope ["block", "k"] ["block", "k"] (defScope s_bit_in) := ⟨rfl, rfl, rfl, by decide +kernel, rfl, by decide +kernel, by decide +kernel⟩
abbrev s_bits_of : Stmt := top 15
theorem sc_bits_of : FnScope ["block", "upto"] ["block", "upto"] (defScope s_bits_of) := ⟨rfl, rfl, rfl, by decide +kernel, rfl, by decide +kernel, by decide +kernel⟩
abbrev s_ones_in : Stmt := top 16
theorem sc_ones_in : FnScope ["block", "upto"] ["block", "upto"] (defScope s_ones_in) := ⟨rfl, rfl, rfl, by decide +kernel, rfl, by decide +kernel, by decide +kernel⟩
abbrev s_nets_of : Stmt := top 17
theorem sc_nets_of : FnScope ["block", "upto", "nets", "net", "bit"] ["block", "upto"] (defScope s_nets_of) := ⟨rfl, rfl, rfl, by decide +kernel, rfl, by decide +kernel, by decide +kernel⟩
abbrev s_low_in : Stmt := top 18
theorem sc_low_in : FnScope ["block", "upto"] ["block", "upto"] (defScope s_low_in) := ⟨rfl, rfl, rfl, by decide +kernel, rfl, by decide +kernel, by decide +kernel⟩
abbrev s_look_of : Stmt := top 19
theorem sc_look_of : FnScope ["blocks", "kept", "look"] ["blocks"] (defScope s_look_of) := ⟨rfl, rfl, rfl, by decide +kernel, rfl, by decide +kernel, by decide +kernel⟩
abbrev s_octets_of : Stmt := top 21
theorem sc_octets_of : FnScope ["number", "many", "octets", "rest", "k"] ["number", "many"] (defScope s_octets_of) := ⟨rfl, rfl, rfl, by decide +kernel, rfl, by decide +kernel, by decide +kernel⟩
abbrev s_number_of : Stmt := top 22
theorem sc_number_of : FnScope ["octets", "number", "octet"] ["octets"] (defScope s_number_of) := ⟨rfl, rfl, rfl, by decide +kernel, rfl, by decide +kernel, by decide +kernel⟩
abbrev s_kept_row : Stmt := top 24
theorem sc_kept_row : FnScope ["bits", "blocks"] ["bits"] (defScope s_kept_row) := ⟨rfl, rfl, rfl, by decide +kernel, rfl, by decide +kernel, by decide +kernel⟩
abbrev s_ahead_of : Stmt := top 25
theorem sc_ahead_of : FnScope ["blocks", "ahead", "block"] ["blocks"] (defScope s_ahead_of) := ⟨rfl, rfl, rfl, by decide +kernel, rfl, by decide +kernel, by decide +kernel⟩
abbrev s_heap_of : Stmt := top 28
theorem sc_heap_of : FnScope ["numbers", "size", "nodes", "node"] ["numbers"] (defScope s_heap_of) := ⟨rfl, rfl, rfl, by decide +kernel, rfl, by decide +kernel, by decide +kernel⟩
abbrev s_size_of : Stmt := top 29
theorem sc_size_of : FnScope ["many", "size"] ["many"] (defScope s_size_of) := ⟨rfl, rfl, rfl, by decide +kernel, rfl, by decide +kernel, by decide +kernel⟩
abbrev s_lesser_of : Stmt := top 30
theorem sc_lesser_of : FnScope ["one", "other"] ["one", "other"] (defScope s_lesser_of) := ⟨rfl, rfl, rfl, by decide +kernel, rfl, by decide +kernel, by decide +kernel⟩
abbrev s_is_tree : Stmt := top 32
theorem sc_is_tree : FnScope ["bits", "level", "at", "bit"] ["bits"] (defScope s_is_tree) := ⟨rfl, rfl, rfl, by decide +kernel, rfl, by decide +kernel, by decide +kernel⟩
abbrev s_check_brackets : Stmt := top 33
theorem sc_check_brackets : FnScope ["bits"] ["bits"] (defScope s_check_brackets) := ⟨rfl, rfl, rfl, by decide +kernel, rfl, by decide +kernel, by decide +kernel⟩
abbrev s_kept_brackets : Stmt := top 34
theorem sc_kept_brackets : FnScope ["bits", "row", "tables", "blocks", "lows"] ["bits"] (defScope s_kept_brackets) := ⟨rfl, rfl, rfl, by decide +kernel, rfl, by decide +kernel, by decide +kernel⟩
abbrev s_low_of : Stmt := top 35
theorem sc_low_of : FnScope ["tables", "number", "block"] ["tables", "number", "block"] (defScope s_low_of) := ⟨rfl, rfl, rfl, by decide +kernel, rfl, by decide +kernel, by decide +kernel⟩
abbrev s_base_of : Stmt := top 36
theorem sc_base_of : FnScope ["tables", "number"] ["tables", "number"] (defScope s_base_of) := ⟨rfl, rfl, rfl, by decide +kernel, rfl, by decide +kernel, by decide +kernel⟩
abbrev s_end_within : Stmt := top 37
theorem sc_end_within : FnScope ["number", "upto"] ["number", "upto"] (defScope s_end_within) := ⟨rfl, rfl, rfl, by decide +kernel, rfl, by decide +kernel, by decide +kernel⟩
abbrev s_check_depths : Stmt := top 40
theorem sc_check_depths : FnScope ["depths", "ahead", "depth"] ["depths"] (defScope s_check_depths) := ⟨rfl, rfl, rfl, by decide +kernel, rfl, by decide +kernel, by decide +kernel⟩
abbrev s_brackets_of : Stmt := top 41
theorem sc_brackets_of : FnScope ["depths", "bits", "unclosed", "depth"] ["depths"] (defScope s_brackets_of) := ⟨rfl, rfl, rfl, by decide +kernel, rfl, by decide +kernel, by decide +kernel⟩
abbrev s_depths_of : Stmt := top 42
theorem sc_depths_of : FnScope ["bits", "depths", "unclosed", "bit"] ["bits"] (defScope s_depths_of) := ⟨rfl, rfl, rfl, by decide +kernel, rfl, by decide +kernel, by decide +kernel⟩
abbrev s_kept_tree : Stmt := top 43
theorem sc_kept_tree : FnScope ["depths"] ["depths"] (defScope s_kept_tree) := ⟨rfl, rfl, rfl, by decide +kernel, rfl, by decide +kernel, by decide +kernel⟩
abbrev s_numbers_octets : Stmt := top 48
theorem sc_numbers_octets : FnScope ["numbers", "size", "octets", "number"] ["numbers", "size"] (defScope s_numbers_octets) := ⟨rfl, rfl, rfl, by decide +kernel, rfl, by decide +kernel, by decide +kernel⟩
abbrev s_bits_octets : Stmt := top 49
theorem sc_bits_octets : FnScope ["blocks", "ahead"] ["blocks", "ahead"] (defScope s_bits_octets) := ⟨rfl, rfl, rfl, by decide +kernel, rfl, by decide +kernel, by decide +kernel⟩
abbrev s_tree_octets : Stmt := top 50
theorem sc_tree_octets : FnScope ["depths", "kept", "tables", "blocks", "first", "lows", "count"] ["depths"] (defScope s_tree_octets) := ⟨rfl, rfl, rfl, by decide +kernel, rfl, by decide +kernel, by decide +kernel⟩
abbrev s_read_tree : Stmt := top 51
theorem sc_read_tree : FnScope ["octets"] ["octets"] (defScope s_read_tree) := ⟨rfl, rfl, rfl, by decide +kernel, rfl, by decide +kernel, by decide +kernel⟩
abbrev s_opened_tree : Stmt := top 52
theorem sc_opened_tree : FnScope ["octets", "kept"] ["octets"] (defScope s_opened_tree) := ⟨rfl, rfl, rfl, by decide +kernel, rfl, by decide +kernel, by decide +kernel⟩
abbrev s_read_as : Stmt := top 53
theorem sc_read_as : FnScope ["octets", "tell", "write", "told", "again"] ["octets", "tell", "write"] (defScope s_read_as) := ⟨rfl, rfl, rfl, by decide +kernel, rfl, by decide +kernel, by decide +kernel⟩
abbrev s_check_octets : Stmt := top 54
theorem sc_check_octets : FnScope ["octets", "octet"] ["octets"] (defScope s_check_octets) := ⟨rfl, rfl, rfl, by decide +kernel, rfl, by decide +kernel, by decide +kernel⟩
abbrev s_number_at : Stmt := top 55
theorem sc_number_at : FnScope ["octets", "at", "size"] ["octets", "at", "size"] (defScope s_number_at) := ⟨rfl, rfl, rfl, by decide +kernel, rfl, by decide +kernel, by decide +kernel⟩
abbrev s_numbers_at : Stmt := top 56
theorem sc_numbers_at : FnScope ["octets", "at", "size", "many"] ["octets", "at", "size", "many"] (defScope s_numbers_at) := ⟨rfl, rfl, rfl, by decide +kernel, rfl, by decide +kernel, by decide +kernel⟩
abbrev s_block_total : Stmt := top 57
theorem sc_block_total : FnScope ["many"] ["many"] (defScope s_block_total) := ⟨rfl, rfl, rfl, by decide +kernel, rfl, by decide +kernel, by decide +kernel⟩
abbrev s_bits_at : Stmt := top 58
theorem sc_bits_at : FnScope ["octets", "at", "many"] ["octets", "at", "many"] (defScope s_bits_at) := ⟨rfl, rfl, rfl, by decide +kernel, rfl, by decide +kernel, by decide +kernel⟩
abbrev s_told_bits : Stmt := top 59
theorem sc_told_bits : FnScope ["octets"] ["octets"] (defScope s_told_bits) := ⟨rfl, rfl, rfl, by decide +kernel, rfl, by decide +kernel, by decide +kernel⟩
abbrev s_told_depths : Stmt := top 60
theorem sc_told_depths : FnScope ["octets"] ["octets"] (defScope s_told_depths) := ⟨rfl, rfl, rfl, by decide +kernel, rfl, by decide +kernel, by decide +kernel⟩
abbrev s_law_cell_at : Stmt := top 62
theorem sc_law_cell_at : FnScope ["_law_script", "_law_k"] ["_law_script", "_law_k"] (defScope s_law_cell_at) := ⟨rfl, rfl, rfl, by decide +kernel, rfl, by decide +kernel, by decide +kernel⟩
abbrev s_law_whole : Stmt := top 63
theorem sc_law_whole : FnScope ["_law_found"] ["_law_found"] (defScope s_law_whole) := ⟨rfl, rfl, rfl, by decide +kernel, rfl, by decide +kernel, by decide +kernel⟩
abbrev s_law_bits : Stmt := top 64
theorem sc_law_bits : FnScope ["_law_script", "_law_bits_here", "_law_depths", "_law_cell", "_law_number", "_law_many", "_law_up", "_law_k", "_law_deep"] ["_law_script"] (defScope s_law_bits) := ⟨rfl, rfl, rfl, by decide +kernel, rfl, by decide +kernel, by decide +kernel⟩
abbrev s_law_two : Stmt := top 65
theorem sc_law_two : FnScope ["_law_number"] ["_law_number"] (defScope s_law_two) := ⟨rfl, rfl, rfl, by decide +kernel, rfl, by decide +kernel, by decide +kernel⟩
abbrev s_law_written : Stmt := top 66
theorem sc_law_written : FnScope ["_law_bits_here", "_law_octets_here", "_law_start", "_law_octet", "_law_bit", "_law_ones", "_law_lows", "_law_low", "_law_at"] ["_law_bits_here"] (defScope s_law_written) := ⟨rfl, rfl, rfl, by decide +kernel, rfl, by decide +kernel, by decide +kernel⟩
abbrev s_law_due : Stmt := top 67
theorem sc_law_due : FnScope ["_law_octets_here", "_law_many", "_law_bits_here", "_law_octet", "_law_k", "_law_depths", "_law_deep", "_law_at"] ["_law_octets_here"] (defScope s_law_due) := ⟨rfl, rfl, rfl, by decide +kernel, rfl, by decide +kernel, by decide +kernel⟩
abbrev s_law_asked : Stmt := top 68
theorem sc_law_asked : FnScope ["_law_way", "_law_octets_here"] ["_law_way", "_law_octets_here"] (defScope s_law_asked) := ⟨rfl, rfl, rfl, by decide +kernel, rfl, by decide +kernel, by decide +kernel⟩
abbrev s_law_told : Stmt := top 69
theorem sc_law_told : FnScope ["_law_way", "_law_octets_here", "_law_told_here", "_law_found", "e", "_law_others"] ["_law_way", "_law_octets_here"] (defScope s_law_told) := ⟨rfl, rfl, rfl, by decide +kernel, rfl, by decide +kernel, by decide +kernel⟩
abbrev s_law_changed : Stmt := top 70
theorem sc_law_changed : FnScope ["_law_octets_here", "_law_cell", "_law_number", "_law_at", "_law_drawn", "_law_bit"] ["_law_octets_here", "_law_cell"] (defScope s_law_changed) := ⟨rfl, rfl, rfl, by decide +kernel, rfl, by decide +kernel, by decide +kernel⟩
abbrev s_law_octets : Stmt := top 71
theorem sc_law_octets : FnScope ["_law_script", "_law_bits_here", "_law_at", "_law_two_here", "_law_octets_here", "_law_k", "_law_way"] ["_law_script"] (defScope s_law_octets) := ⟨rfl, rfl, rfl, by decide +kernel, rfl, by decide +kernel, by decide +kernel⟩
abbrev s_law_opened : Stmt := top 72
theorem sc_law_opened : FnScope ["_law_octets_here", "_law_depths", "_law_handed", "_law_found", "_law_tables", "_law_look", "_law_many", "_law_size", "_law_told_here", "_law_due_here", "_law_at", "_law_high"] ["_law_octets_here", "_law_depths"] (defScope s_law_opened) := ⟨rfl, rfl, rfl, by decide +kernel, rfl, by decide +kernel, by decide +kernel⟩
abbrev s_law : Stmt := top 73
theorem sc_law : FnScope ["_law_script", "_law_octets_here", "_law_handed", "_law_due_here", "_law_found"] ["_law_script"] (defScope s_law) := ⟨rfl, rfl, rfl, by decide +kernel, rfl, by decide +kernel, by decide +kernel⟩
abbrev i_look_of : Stmt := (defBody s_look_of).getD 1 (.Pass ⟨0, 0, 0, 0⟩)
abbrev T_look : CloT := cloOf i_look_of "look_of.<locals>.look" ["number"] ["kept"]
theorem sc_look : CloScope ["number", "kept"] T_look := ⟨rfl, rfl, rfl, by decide +kernel, rfl, by decide +kernel, by decide +kernel, by decide +kernel, by decide +kernel⟩
theorem mk_look_of : MkOk ["blocks", "kept", "look"] "look_of" (defScope s_look_of) T_look 2 [1] (fun L => [L + 1]) := ⟨sc_look_of.nd, rfl, by decide +kernel, fun _ _ _ => rfl, fun _ _ _ => rfl, rfl, rfl, fun _ _ _ => rfl, fun L => by simp, fun _ => rfl, fun L f c j a h => match j, h with | 0, h => ⟨"kept", 1, by cases h; rfl, by decide +kernel, rfl, rfl, by decide⟩ | j + 1, h => absurd h (by simp), by decide, by decide⟩
structure FI (K : PySem.W.Frag) (n : Str) (st : Stmt) (f : Addr) (fd : FuncData) : Prop where
  a : PySem.W.nsIn K mainGlobals n = some (some (.ref f))
  F : Fun K n n st f fd
theorem lens1 {α : Type} {C : List α → Prop} {us : List α} (hl : us.length = 1) (h : ∀ x0, C [x0]) : C us := match us, hl with | [_], _ => h _
theorem df1 {K : PySem.W.Frag} {h : Heap} {mg : Str → Option Value} {n p0 : Str} {st : Stmt} {f : Addr} {fd : FuncData} (X : K.In h) (G : h.Ns mainGlobals mg) (d : FI K n st f fd) (b : ∀ (kV doc pm : Value) (an : Option Addr) (cdv ct : Value) (x0 : Value), bindArgs (PySem.W.fnOf n n (defArgs st) (defBody st) (defScope st) .none kV doc pm an cdv ct) ⟨[x0], []⟩ = pure (List.zip [p0] [x0])) : Df K mg n st [p0] f fd := ⟨d.F, d.F.binds (ps := [p0]) fun kV doc pm an cdv ct us hl => lens1 (C := fun us => bindArgs _ ⟨us, []⟩ = pure (List.zip ([p0] : List Str) us)) hl (b kV doc pm an cdv ct), PySem.W.mg_of X G d.a⟩
theorem lens2 {α : Type} {C : List α → Prop} {us : List α} (hl : us.length = 2) (h : ∀ x0 x1, C [x0, x1]) : C us := match us, hl with | [_, _], _ => h _ _
theorem df2 {K : PySem.W.Frag} {h : Heap} {mg : Str → Option Value} {n p0 p1 : Str} {st : Stmt} {f : Addr} {fd : FuncData} (X : K.In h) (G : h.Ns mainGlobals mg) (d : FI K n st f fd) (b : ∀ (kV doc pm : Value) (an : Option Addr) (cdv ct : Value) (x0 x1 : Value), bindArgs (PySem.W.fnOf n n (defArgs st) (defBody st) (defScope st) .none kV doc pm an cdv ct) ⟨[x0, x1], []⟩ = pure (List.zip [p0, p1] [x0, x1])) : Df K mg n st [p0, p1] f fd := ⟨d.F, d.F.binds (ps := [p0, p1]) fun kV doc pm an cdv ct us hl => lens2 (C := fun us => bindArgs _ ⟨us, []⟩ = pure (List.zip ([p0, p1] : List Str) us)) hl (b kV doc pm an cdv ct), PySem.W.mg_of X G d.a⟩
theorem lens3 {α : Type} {C : List α → Prop} {us : List α} (hl : us.length = 3) (h : ∀ x0 x1 x2, C [x0, x1, x2]) : C us := match us, hl with | [_, _, _], _ => h _ _ _
theorem df3 {K : PySem.W.Frag} {h : Heap} {mg : Str → Option Value} {n p0 p1 p2 : Str} {st : Stmt} {f : Addr} {fd : FuncData} (X : K.In h) (G : h.Ns mainGlobals mg) (d : FI K n st f fd) (b : ∀ (kV doc pm : Value) (an : Option Addr) (cdv ct : Value) (x0 x1 x2 : Value), bindArgs (PySem.W.fnOf n n (defArgs st) (defBody st) (defScope st) .none kV doc pm an cdv ct) ⟨[x0, x1, x2], []⟩ = pure (List.zip [p0, p1, p2] [x0, x1, x2])) : Df K mg n st [p0, p1, p2] f fd := ⟨d.F, d.F.binds (ps := [p0, p1, p2]) fun kV doc pm an cdv ct us hl => lens3 (C := fun us => bindArgs _ ⟨us, []⟩ = pure (List.zip ([p0, p1, p2] : List Str) us)) hl (b kV doc pm an cdv ct), PySem.W.mg_of X G d.a⟩
theorem lens4 {α : Type} {C : List α → Prop} {us : List α} (hl : us.length = 4) (h : ∀ x0 x1 x2 x3, C [x0, x1, x2, x3]) : C us := match us, hl with | [_, _, _, _], _ => h _ _ _ _
theorem df4 {K : PySem.W.Frag} {h : Heap} {mg : Str → Option Value} {n p0 p1 p2 p3 : Str} {st : Stmt} {f : Addr} {fd : FuncData} (X : K.In h) (G : h.Ns mainGlobals mg) (d : FI K n st f fd) (b : ∀ (kV doc pm : Value) (an : Option Addr) (cdv ct : Value) (x0 x1 x2 x3 : Value), bindArgs (PySem.W.fnOf n n (defArgs st) (defBody st) (defScope st) .none kV doc pm an cdv ct) ⟨[x0, x1, x2, x3], []⟩ = pure (List.zip [p0, p1, p2, p3] [x0, x1, x2, x3])) : Df K mg n st [p0, p1, p2, p3] f fd := ⟨d.F, d.F.binds (ps := [p0, p1, p2, p3]) fun kV doc pm an cdv ct us hl => lens4 (C := fun us => bindArgs _ ⟨us, []⟩ = pure (List.zip ([p0, p1, p2, p3] : List Str) us)) hl (b kV doc pm an cdv ct), PySem.W.mg_of X G d.a⟩
set_option genInjectivity false in
set_option genSizeOf false in
structure Ad where
  tc_look_of : Addr
  tP_look_of : Addr
  f_packed : Addr
  fd_packed : FuncData
  f_check_row : Addr
  fd_check_row : FuncData
  f_block_of : Addr
  fd_block_of : FuncData
  f_unpacked : Addr
  fd_unpacked : FuncData
  f_bit_in : Addr
  fd_bit_in : FuncData
  f_bits_of : Addr
  fd_bits_of : FuncData
  f_ones_in : Addr
  fd_ones_in : FuncData
  f_nets_of : Addr
  fd_nets_of : FuncData
  f_low_in : Addr
  fd_low_in : FuncData
  f_look_of : Addr
  fd_look_of : FuncData
  f_octets_of : Addr
  fd_octets_of : FuncData
  f_number_of : Addr
  fd_number_of : FuncData
  f_kept_row : Addr
  fd_kept_row : FuncData
  f_ahead_of : Addr
  fd_ahead_of : FuncData
  f_heap_of : Addr
  fd_heap_of : FuncData
  f_size_of : Addr
  fd_size_of : FuncData
  f_lesser_of : Addr
  fd_lesser_of : FuncData
  f_is_tree : Addr
  fd_is_tree : FuncData
  f_check_brackets : Addr
  fd_check_brackets : FuncData
  f_kept_brackets : Addr
  fd_kept_brackets : FuncData
  f_low_of : Addr
  fd_low_of : FuncData
  f_base_of : Addr
  fd_base_of : FuncData
  f_end_within : Addr
  fd_end_within : FuncData
  f_check_depths : Addr
  fd_check_depths : FuncData
  f_brackets_of : Addr
  fd_brackets_of : FuncData
  f_depths_of : Addr
  fd_depths_of : FuncData
  f_kept_tree : Addr
  fd_kept_tree : FuncData
  f_numbers_octets : Addr
  fd_numbers_octets : FuncData
  f_bits_octets : Addr
  fd_bits_octets : FuncData
  f_tree_octets : Addr
  fd_tree_octets : FuncData
  f_read_tree : Addr
  fd_read_tree : FuncData
  f_opened_tree : Addr
  fd_opened_tree : FuncData
  f_read_as : Addr
  fd_read_as : FuncData
  f_check_octets : Addr
  fd_check_octets : FuncData
  f_number_at : Addr
  fd_number_at : FuncData
  f_numbers_at : Addr
  fd_numbers_at : FuncData
  f_block_total : Addr
  fd_block_total : FuncData
  f_bits_at : Addr
  fd_bits_at : FuncData
  f_told_bits : Addr
  fd_told_bits : FuncData
  f_told_depths : Addr
  fd_told_depths : FuncData
  f_law_cell_at : Addr
  fd_law_cell_at : FuncData
  f_law_whole : Addr
  fd_law_whole : FuncData
  f_law_bits : Addr
  fd_law_bits : FuncData
  f_law_two : Addr
  fd_law_two : FuncData
  f_law_written : Addr
  fd_law_written : FuncData
  f_law_due : Addr
  fd_law_due : FuncData
  f_law_asked : Addr
  fd_law_asked : FuncData
  f_law_told : Addr
  fd_law_told : FuncData
  f_law_changed : Addr
  fd_law_changed : FuncData
  f_law_octets : Addr
  fd_law_octets : FuncData
  f_law_opened : Addr
  fd_law_opened : FuncData
  f_law : Addr
  fd_law : FuncData
  t_BLOCK_BITS : Tok
  t_BLOCK_OCTETS : Tok
  t_COUNT_OCTETS : Tok
  t_MOST_BITS : Tok
  t_MOST_NODES : Tok
  t_MOST_NUMBERS : Tok
  t_TREE : Tok
  c_NoBit : Addr
  c_NoOctets : Addr
  c_NoTree : Addr
  c_TooMany : Addr
  c_WoodError : Addr
structure Tx (K : PySem.W.Frag) (mg : Str → Option Value) (a : Ad) : Prop where
  D_packed : Df K mg "packed" s_packed ["bits"] a.f_packed a.fd_packed
  D_check_row : Df K mg "check_row" s_check_row ["bits"] a.f_check_row a.fd_check_row
  D_block_of : Df K mg "block_of" s_block_of ["bits"] a.f_block_of a.fd_block_of
  D_unpacked : Df K mg "unpacked" s_unpacked ["blocks", "many"] a.f_unpacked a.fd_unpacked
  D_bit_in : Df K mg "bit_in" s_bit_in ["block", "k"] a.f_bit_in a.fd_bit_in
  D_bits_of : Df K mg "bits_of" s_bits_of ["block", "upto"] a.f_bits_of a.fd_bits_of
  D_ones_in : Df K mg "ones_in" s_ones_in ["block", "upto"] a.f_ones_in a.fd_ones_in
  D_nets_of : Df K mg "nets_of" s_nets_of ["block", "upto"] a.f_nets_of a.fd_nets_of
  D_low_in : Df K mg "low_in" s_low_in ["block", "upto"] a.f_low_in a.fd_low_in
  D_look_of : Df K mg "look_of" s_look_of ["blocks"] a.f_look_of a.fd_look_of
  D_octets_of : Df K mg "octets_of" s_octets_of ["number", "many"] a.f_octets_of a.fd_octets_of
  D_number_of : Df K mg "number_of" s_number_of ["octets"] a.f_number_of a.fd_number_of
  D_kept_row : Df K mg "kept_row" s_kept_row ["bits"] a.f_kept_row a.fd_kept_row
  D_ahead_of : Df K mg "ahead_of" s_ahead_of ["blocks"] a.f_ahead_of a.fd_ahead_of
  D_heap_of : Df K mg "heap_of" s_heap_of ["numbers"] a.f_heap_of a.fd_heap_of
  D_size_of : Df K mg "size_of" s_size_of ["many"] a.f_size_of a.fd_size_of
  D_lesser_of : Df K mg "lesser_of" s_lesser_of ["one", "other"] a.f_lesser_of a.fd_lesser_of
  D_is_tree : Df K mg "is_tree" s_is_tree ["bits"] a.f_is_tree a.fd_is_tree
  D_check_brackets : Df K mg "check_brackets" s_check_brackets ["bits"] a.f_check_brackets a.fd_check_brackets
  D_kept_brackets : Df K mg "kept_brackets" s_kept_brackets ["bits"] a.f_kept_brackets a.fd_kept_brackets
  D_low_of : Df K mg "low_of" s_low_of ["tables", "number", "block"] a.f_low_of a.fd_low_of
  D_base_of : Df K mg "base_of" s_base_of ["tables", "number"] a.f_base_of a.fd_base_of
  D_end_within : Df K mg "end_within" s_end_within ["number", "upto"] a.f_end_within a.fd_end_within
  D_check_depths : Df K mg "check_depths" s_check_depths ["depths"] a.f_check_depths a.fd_check_depths
  D_brackets_of : Df K mg "brackets_of" s_brackets_of ["depths"] a.f_brackets_of a.fd_brackets_of
  D_depths_of : Df K mg "depths_of" s_depths_of ["bits"] a.f_depths_of a.fd_depths_of
  D_kept_tree : Df K mg "kept_tree" s_kept_tree ["depths"] a.f_kept_tree a.fd_kept_tree
  D_numbers_octets : Df K mg "numbers_octets" s_numbers_octets ["numbers", "size"] a.f_numbers_octets a.fd_numbers_octets
  D_bits_octets : Df K mg "bits_octets" s_bits_octets ["blocks", "ahead"] a.f_bits_octets a.fd_bits_octets
  D_tree_octets : Df K mg "tree_octets" s_tree_octets ["depths"] a.f_tree_octets a.fd_tree_octets
  D_read_tree : Df K mg "read_tree" s_read_tree ["octets"] a.f_read_tree a.fd_read_tree
  D_opened_tree : Df K mg "opened_tree" s_opened_tree ["octets"] a.f_opened_tree a.fd_opened_tree
  D_read_as : Df K mg "read_as" s_read_as ["octets", "tell", "write"] a.f_read_as a.fd_read_as
  D_check_octets : Df K mg "check_octets" s_check_octets ["octets"] a.f_check_octets a.fd_check_octets
  D_number_at : Df K mg "number_at" s_number_at ["octets", "at", "size"] a.f_number_at a.fd_number_at
  D_numbers_at : Df K mg "numbers_at" s_numbers_at ["octets", "at", "size", "many"] a.f_numbers_at a.fd_numbers_at
  D_block_total : Df K mg "block_total" s_block_total ["many"] a.f_block_total a.fd_block_total
  D_bits_at : Df K mg "bits_at" s_bits_at ["octets", "at", "many"] a.f_bits_at a.fd_bits_at
  D_told_bits : Df K mg "told_bits" s_told_bits ["octets"] a.f_told_bits a.fd_told_bits
  D_told_depths : Df K mg "told_depths" s_told_depths ["octets"] a.f_told_depths a.fd_told_depths
  D_law_cell_at : Df K mg "_law_cell_at" s_law_cell_at ["_law_script", "_law_k"] a.f_law_cell_at a.fd_law_cell_at
  D_law_whole : Df K mg "_law_whole" s_law_whole ["_law_found"] a.f_law_whole a.fd_law_whole
  D_law_bits : Df K mg "_law_bits" s_law_bits ["_law_script"] a.f_law_bits a.fd_law_bits
  D_law_two : Df K mg "_law_two" s_law_two ["_law_number"] a.f_law_two a.fd_law_two
  D_law_written : Df K mg "_law_written" s_law_written ["_law_bits_here"] a.f_law_written a.fd_law_written
  D_law_due : Df K mg "_law_due" s_law_due ["_law_octets_here"] a.f_law_due a.fd_law_due
  D_law_asked : Df K mg "_law_asked" s_law_asked ["_law_way", "_law_octets_here"] a.f_law_asked a.fd_law_asked
  D_law_told : Df K mg "_law_told" s_law_told ["_law_way", "_law_octets_here"] a.f_law_told a.fd_law_told
  D_law_changed : Df K mg "_law_changed" s_law_changed ["_law_octets_here", "_law_cell"] a.f_law_changed a.fd_law_changed
  D_law_octets : Df K mg "_law_octets" s_law_octets ["_law_script"] a.f_law_octets a.fd_law_octets
  D_law_opened : Df K mg "_law_opened" s_law_opened ["_law_octets_here", "_law_depths"] a.f_law_opened a.fd_law_opened
  D_law : Df K mg "law" s_law ["_law_script"] a.f_law a.fd_law
  b_ValueError : mg "ValueError" = none
  b_bool : mg "bool" = none
  b_enumerate : mg "enumerate" = none
  b_int : mg "int" = none
  b_isinstance : mg "isinstance" = none
  b_len : mg "len" = none
  b_list : mg "list" = none
  b_min : mg "min" = none
  b_range : mg "range" = none
  b_reversed : mg "reversed" = none
  b_sum : mg "sum" = none
  b_tuple : mg "tuple" = none
  b_zip : mg "zip" = none
  c_BLOCK_BITS : mg "BLOCK_BITS" = some (.int 32 a.t_BLOCK_BITS)
  c_BLOCK_OCTETS : mg "BLOCK_OCTETS" = some (.int 4 a.t_BLOCK_OCTETS)
  c_COUNT_OCTETS : mg "COUNT_OCTETS" = some (.int 2 a.t_COUNT_OCTETS)
  c_MOST_BITS : mg "MOST_BITS" = some (.int 4096 a.t_MOST_BITS)
  c_MOST_NODES : mg "MOST_NODES" = some (.int 2048 a.t_MOST_NODES)
  c_MOST_NUMBERS : mg "MOST_NUMBERS" = some (.int 4096 a.t_MOST_NUMBERS)
  c_TREE : mg "TREE" = some (.int 2 a.t_TREE)
  g_NoBit : mg "NoBit" = some (.ref a.c_NoBit)
  g_NoOctets : mg "NoOctets" = some (.ref a.c_NoOctets)
  g_NoTree : mg "NoTree" = some (.ref a.c_NoTree)
  g_TooMany : mg "TooMany" = some (.ref a.c_TooMany)
  g_WoodError : mg "WoodError" = some (.ref a.c_WoodError)
  x_NoBit : Exc K mg "NoBit" a.c_NoBit
  k_NoBit : ExcK K a.c_NoBit
  i_NoBit_NoBit : PySem.W.kitOne K (.ref a.c_NoBit) (.ref a.c_NoBit) = some true
  i_NoBit_NoOctets : PySem.W.kitOne K (.ref a.c_NoBit) (.ref a.c_NoOctets) = some false
  i_NoBit_NoTree : PySem.W.kitOne K (.ref a.c_NoBit) (.ref a.c_NoTree) = some false
  i_NoBit_TooMany : PySem.W.kitOne K (.ref a.c_NoBit) (.ref a.c_TooMany) = some false
  i_NoBit_WoodError : PySem.W.kitOne K (.ref a.c_NoBit) (.ref a.c_WoodError) = some true
  i_NoBit_ValueError : PySem.W.kitOne K (.ref a.c_NoBit) (.type "ValueError") = some true
  x_NoOctets : Exc K mg "NoOctets" a.c_NoOctets
  k_NoOctets : ExcK K a.c_NoOctets
  i_NoOctets_NoBit : PySem.W.kitOne K (.ref a.c_NoOctets) (.ref a.c_NoBit) = some false
  i_NoOctets_NoOctets : PySem.W.kitOne K (.ref a.c_NoOctets) (.ref a.c_NoOctets) = some true
  i_NoOctets_NoTree : PySem.W.kitOne K (.ref a.c_NoOctets) (.ref a.c_NoTree) = some false
  i_NoOctets_TooMany : PySem.W.kitOne K (.ref a.c_NoOctets) (.ref a.c_TooMany) = some false
  i_NoOctets_WoodError : PySem.W.kitOne K (.ref a.c_NoOctets) (.ref a.c_WoodError) = some true
  i_NoOctets_ValueError : PySem.W.kitOne K (.ref a.c_NoOctets) (.type "ValueError") = some true
  x_NoTree : Exc K mg "NoTree" a.c_NoTree
  k_NoTree : ExcK K a.c_NoTree
  i_NoTree_NoBit : PySem.W.kitOne K (.ref a.c_NoTree) (.ref a.c_NoBit) = some false
  i_NoTree_NoOctets : PySem.W.kitOne K (.ref a.c_NoTree) (.ref a.c_NoOctets) = some false
  i_NoTree_NoTree : PySem.W.kitOne K (.ref a.c_NoTree) (.ref a.c_NoTree) = some true
  i_NoTree_TooMany : PySem.W.kitOne K (.ref a.c_NoTree) (.ref a.c_TooMany) = some false
  i_NoTree_WoodError : PySem.W.kitOne K (.ref a.c_NoTree) (.ref a.c_WoodError) = some true
  i_NoTree_ValueError : PySem.W.kitOne K (.ref a.c_NoTree) (.type "ValueError") = some true
  x_TooMany : Exc K mg "TooMany" a.c_TooMany
  k_TooMany : ExcK K a.c_TooMany
  i_TooMany_NoBit : PySem.W.kitOne K (.ref a.c_TooMany) (.ref a.c_NoBit) = some false
  i_TooMany_NoOctets : PySem.W.kitOne K (.ref a.c_TooMany) (.ref a.c_NoOctets) = some false
  i_TooMany_NoTree : PySem.W.kitOne K (.ref a.c_TooMany) (.ref a.c_NoTree) = some false
  i_TooMany_TooMany : PySem.W.kitOne K (.ref a.c_TooMany) (.ref a.c_TooMany) = some true
  i_TooMany_WoodError : PySem.W.kitOne K (.ref a.c_TooMany) (.ref a.c_WoodError) = some true
  i_TooMany_ValueError : PySem.W.kitOne K (.ref a.c_TooMany) (.type "ValueError") = some true
  x_WoodError : Exc K mg "WoodError" a.c_WoodError
  k_WoodError : ExcK K a.c_WoodError
  i_WoodError_NoBit : PySem.W.kitOne K (.ref a.c_WoodError) (.ref a.c_NoBit) = some false
  i_WoodError_NoOctets : PySem.W.kitOne K (.ref a.c_WoodError) (.ref a.c_NoOctets) = some false
  i_WoodError_NoTree : PySem.W.kitOne K (.ref a.c_WoodError) (.ref a.c_NoTree) = some false
  i_WoodError_TooMany : PySem.W.kitOne K (.ref a.c_WoodError) (.ref a.c_TooMany) = some false
  i_WoodError_WoodError : PySem.W.kitOne K (.ref a.c_WoodError) (.ref a.c_WoodError) = some true
  i_WoodError_ValueError : PySem.W.kitOne K (.ref a.c_WoodError) (.type "ValueError") = some true
  w_look_of : a.fd_look_of.code = .ref a.tc_look_of
structure Bs (mg : Str → Option Value) (base : Heap) (a : Ad) : Prop where
  bm : BMain mg base
  C_look_of : PySem.W.CodeHd base a.tc_look_of a.tP_look_of
theorem bt_ValueError : bootBuiltins "ValueError" = some (.type "ValueError") := by decide +kernel
theorem CloAt.out {H : Hp} {f b : Addr} {c : CloT} {cs : List Addr} {fvs : List V} {xs : List V} (h : CloAt H f c cs fvs) (e : H b = some (.lst xs)) : b ∉ cs := fun z => by
  obtain ⟨i, hi⟩ := List.getElem?_of_mem z
  obtain ⟨co, v, u, _, e2, _⟩ := h.cells i b hi
  rw [e] at e2
  cases e2
theorem TabAt.same {H H' : Hp} {P : Addr} {pos : Pos} {q : Str} (h : TabAt H P pos q) (s : Same H H') : TabAt H' P pos q := by
  obtain ⟨ps, h1, h2, h3⟩ := h
  refine ⟨ps, s _ _ h1, h2, ?_⟩
  rcases h3 with h3 | ⟨cd, oc, vs, t, h4, h5, h6⟩
  · exact .inl h3
  · exact .inr ⟨cd, oc, vs, t, h4, s _ _ h5, h6⟩
def SameT (P : Addr) (H H' : Hp) : Prop := ∀ b o, H b = some o → b ≠ P → H' b = some o
theorem SameT.trans {P : Addr} {H H1 H2 : Hp} (s : SameT P H H1) (s2 : SameT P H1 H2) : SameT P H H2 := fun b o e n => s2 b o (s b o e n) n
theorem SameT.of {P : Addr} {H H1 : Hp} (s : Same H H1) : SameT P H H1 := fun b o e _ => s b o e
theorem TabAt.ne {H : Hp} {P b : Addr} {pos : Pos} {q : Str} {o : HO} (h : TabAt H P pos q) (e : H b = some o) (n : ∀ ps, o ≠ .tbl ps) : b ≠ P := fun z => by
  obtain ⟨ps, h1, _⟩ := h
  rw [z, h1] at e
  cases e
  exact n _ rfl
theorem TabAt.upd {H : Hp} {P x : Addr} {pos : Pos} {q : Str} {xs ys : List V} (h : TabAt H P pos q) (e : H x = some (.lst xs)) : TabAt (L2.upd H x (.lst ys)) P pos q := by
  obtain ⟨ps, h1, h2, h3⟩ := h
  have ne : ∀ b o, H b = some o → (∀ zs, o ≠ .lst zs) → L2.upd H x (.lst ys) b = some o := fun b o e2 n => by
    rw [upd_ne (fun z => by rw [z, e] at e2; cases e2; exact n _ rfl)]
    exact e2
  refine ⟨ps, ne _ _ h1 nofun, h2, ?_⟩
  rcases h3 with h3 | ⟨cd, oc, vs, t, h4, h5, h6⟩
  · exact .inl h3
  · exact .inr ⟨cd, oc, vs, t, h4, ne _ _ h5 nofun, h6⟩
theorem SameT.free {P : Addr} {H H1 : Hp} (s : SameT P H H1) {l : Addr} (hP : ∃ o, H1 P = some o) (h : H1 l = none) : H l = none := by
  cases e : H l with
  | none => rfl
  | some o =>
    by_cases z : l = P
    · obtain ⟨o, ho⟩ := hP
      rw [z, ho] at h
      cases h
    · rw [s l o e z] at h
      cases h
theorem ixN_nat {n j : Nat} (h : j < n) : ixN n (j : Int) = some j := by
  unfold ixN
  simp
  omega
theorem rep_one (k : Nat) (v : Int) : (List.replicate k [V.int v]).flatten = (List.replicate k v).map V.int := by
  induction k with
  | zero => rfl
  | succ k ih => rw [List.replicate_succ, List.flatten_cons, ih, List.replicate_succ]; rfl
/-- the octets of a number, the one of least weight first -/
def octs (b : Int) (n : Nat) : List Int := (List.range n).map fun i => b / 256 ^ i % 256
def valO : List Int → Int
  | [] => 0
  | x :: r => 256 * valO r + x
theorem octs_length (b : Int) (n : Nat) : (octs b n).length = n := by simp [octs]
theorem octs_succ (b : Int) (n : Nat) : octs b (n + 1) = octs b n ++ [b / 256 ^ n % 256] := by simp [octs, List.range_succ]
theorem next_oct (b : Int) (k : Nat) : b / 256 ^ k / 256 = b / 256 ^ (k + 1) := by
  rw [Int.ediv_ediv_of_nonneg (Int.pow_nonneg (by decide)), Int.pow_succ]
theorem valO_snoc (r : List Int) (x : Int) : valO (r ++ [x]) = valO r + x * 256 ^ r.length := by
  induction r with
  | nil => simp [valO]
  | cons y r ih =>
    simp only [List.cons_append, valO, ih, List.length_cons, Int.pow_succ]
    rw [Int.mul_add, Int.mul_comm (256 ^ r.length) 256, ← Int.mul_assoc, ← Int.mul_assoc, Int.mul_comm 256 x]
    omega
theorem valO_octs_mod (b : Int) : ∀ n : Nat, valO (octs b n) = b % 256 ^ n
  | 0 => by simp [octs, valO]
  | n + 1 => by
    rw [octs_succ, valO_snoc, valO_octs_mod b n, octs_length]
    have hp : (0 : Int) < 256 ^ n := Int.pow_pos (by decide)
    have e1 := Int.emod_add_mul_ediv b (256 ^ n)
    have e2 := Int.emod_add_mul_ediv (b / 256 ^ n) 256
    have e3 := Int.emod_add_mul_ediv b (256 ^ (n + 1))
    rw [next_oct] at e2
    rw [Int.pow_succ] at e3 ⊢
    have h1 : (256 : Int) ^ n * (b / 256 ^ n) = 256 ^ n * (b / 256 ^ n % 256) + 256 ^ n * 256 * (b / 256 ^ (n + 1)) := by
      rw [Int.mul_assoc, ← Int.mul_add, e2]
    rw [Int.pow_succ] at h1
    rw [Int.mul_comm (b / 256 ^ n % 256)]
    omega
theorem valO_octs (b : Int) (n : Nat) (h0 : 0 ≤ b) (h1 : b < 256 ^ n) : valO (octs b n) = b := by
  rw [valO_octs_mod, Int.emod_eq_of_lt h0 h1]
theorem blk_drop : ∀ {ns : List Int}, IsBits ns → ∀ k : Nat, blk ns / 2 ^ k = blk (ns.drop k)
  | ns, _, 0 => by rw [Int.pow_zero, Int.ediv_one, List.drop_zero]
  | [], _, k + 1 => by simp [blk]
  | b :: r, h, k + 1 => by
    have hb := h.head
    rw [List.drop_succ_cons, ← blk_drop h.tail k, Int.pow_succ, Int.mul_comm (2 ^ k) 2, ← Int.ediv_ediv_of_nonneg (by decide)]
    have e : blk (b :: r) / 2 = blk r := by
      simp only [blk]
      omega
    rw [e]
theorem blk_mod : ∀ {ns : List Int}, IsBits ns → ∀ k : Nat, blk ns % 2 ^ k = blk (ns.take k)
  | ns, _, 0 => by rw [Int.pow_zero, Int.emod_one, List.take_zero]; rfl
  | [], _, k + 1 => by simp [blk]
  | b :: r, h, k + 1 => by
    have hb := h.head
    have ih := blk_mod h.tail k
    have hp : (0 : Int) < 2 ^ k := Int.pow_pos (by decide)
    have e1 := Int.emod_add_mul_ediv (blk r) (2 ^ k)
    have l0 := Int.emod_nonneg (blk r) (show (2 : Int) ^ k ≠ 0 by omega)
    have l1 := Int.emod_lt_of_pos (blk r) hp
    rw [List.take_succ_cons]
    simp only [blk]
    rw [← ih, Int.pow_succ]
    have e2 : 2 * blk r + b = (2 * (blk r % 2 ^ k) + b) + (2 ^ k * 2) * (blk r / 2 ^ k) := by
      rw [Int.mul_assoc, Int.mul_comm 2 (blk r / 2 ^ k), ← Int.mul_assoc]
      omega
    rw [e2, Int.add_mul_emod_self_left, Int.emod_eq_of_lt (by omega) (by omega)]
/-- the octet of the bits from the 8 * i-th on -/
def oct8 (ns : List Int) (i : Nat) : Int := blk ((ns.drop (8 * i)).take 8)
theorem oct8_far {ns : List Int} {i : Nat} (h : ns.length ≤ 8 * i) : oct8 ns i = 0 := by
  unfold oct8
  rw [List.drop_of_length_le h]
  rfl
theorem oct_blk {ns : List Int} (h : IsBits ns) (q t : Nat) (ht : t < 4) : blkAt ns q / 256 ^ t % 256 = oct8 ns (4 * q + t) := by
  have e : (256 : Int) ^ t = 2 ^ (8 * t) := by
    have : t = 0 ∨ t = 1 ∨ t = 2 ∨ t = 3 := by omega
    rcases this with rfl | rfl | rfl | rfl <;> decide
  have hs := seg_bits h q
  unfold blkAt oct8
  rw [e, blk_drop hs, show (256 : Int) = 2 ^ 8 from by decide, blk_mod (fun x hx => hs x (List.mem_of_mem_drop hx)), List.drop_take, List.take_take, List.drop_drop, show 32 * q + 8 * t = 8 * (4 * q + t) from by omega, Nat.min_eq_left (by omega)]
theorem octs_four (x : Int) : octs x 4 = [x / 256 ^ 0 % 256, x / 256 ^ 1 % 256, x / 256 ^ 2 % 256, x / 256 ^ 3 % 256] := rfl
theorem octs_two {x : Int} (h0 : 0 ≤ x) (h1 : x < 65536) : octs x 2 = [x % 256, x / 256] := by
  show [x / 256 ^ 0 % 256, x / 256 ^ 1 % 256] = _
  rw [Int.pow_zero, Int.ediv_one, Int.pow_succ, Int.pow_zero, Int.one_mul]
  congr 2
  omega
theorem blocks_octs {ns : List Int} (h : IsBits ns) : ∀ m : Nat, ((List.range m).map (blkAt ns)).flatMap (fun x => octs x 4) = (List.range (4 * m)).map (oct8 ns)
  | 0 => rfl
  | m + 1 => by
    rw [List.range_succ, List.map_append, List.flatMap_append, blocks_octs h m]
    show _ ++ (octs (blkAt ns m) 4 ++ []) = _
    rw [List.append_nil, octs_four, oct_blk h m 0 (by omega), oct_blk h m 1 (by omega), oct_blk h m 2 (by omega), oct_blk h m 3 (by omega), show 4 * (m + 1) = 4 * m + 1 + 1 + 1 + 1 from by omega, List.range_succ, List.range_succ, List.range_succ, List.range_succ]
    simp
/-- what stands written when the ones of j blocks are -/
def LO (ns : List Int) (j : Nat) : List Int := (List.range (4 * many ns.length)).map (oct8 ns) ++ (ahd ns j).flatMap (fun x => octs x 2)
theorem ahd_next (ns : List Int) (j : Nat) : ahd ns (j + 1) = ahd ns j ++ [(ns.take (32 * (j + 1))).sum] := by
  unfold ahd
  rw [List.range_succ, List.map_append]
  rfl
theorem LO_succ (ns : List Int) (j : Nat) : LO ns (j + 1) = LO ns j ++ octs (ns.take (32 * (j + 1))).sum 2 := by
  unfold LO
  rw [ahd_next, List.flatMap_append, List.append_assoc]
  simp
theorem flat_len (k : Nat) : ∀ ns : List Int, (ns.flatMap (fun x => octs x k)).length = k * ns.length
  | [] => by simp
  | x :: r => by rw [List.flatMap_cons, List.length_append, flat_len k r, octs_length, List.length_cons, Nat.mul_succ]; omega
theorem LO_length (ns : List Int) (j : Nat) : (LO ns j).length = 4 * many ns.length + 2 * (j + 1) := by
  unfold LO
  rw [List.length_append, List.length_map, List.length_range, flat_len, ahd_length]
theorem bits_sum_le {ns : List Int} (h : IsBits ns) : 0 ≤ ns.sum ∧ ns.sum ≤ ns.length := by
  induction ns with
  | nil => simp
  | cons b r ih =>
    have := ih h.tail
    have := h.head
    rw [List.sum_cons, List.length_cons]
    omega
theorem cut_natV {xs : List V} {i j : Nat} (hi : i ≤ xs.length) (hj : j ≤ xs.length) : cutV xs (some (i : Int)) (some (j : Int)) = (xs.drop i).take (j - i) := by
  unfold cutV
  rw [HT.sIx_nat, HT.sIx_nat, Nat.min_eq_left hi, Nat.min_eq_left hj]
theorem heap_lows {lows : List Int} {S : Nat} {xs : List V} (hSz : IsSz lows.length S) (hv : HInv lows S 1 xs) : (xs.drop S).take lows.length = lows.map V.int := by
  have hlS : lows.length ≤ S := by
    obtain ⟨_, _, z, _⟩ := hSz
    exact z
  refine List.ext_getElem? fun i => ?_
  rw [List.getElem?_map]
  by_cases hi : i < lows.length
  · rw [List.getElem?_take_of_lt hi, List.getElem?_drop, hv.leaf i (by omega), leafV_some (List.getElem?_eq_getElem hi), List.getElem?_eq_getElem hi]
    rfl
  · rw [List.getElem?_eq_none (by rw [List.length_take]; omega), List.getElem?_eq_none (by omega)]
    rfl
def treeO (ns lows : List Int) : List Int := [2] ++ octs (ns.length : Int) 2 ++ ((packs ns).flatMap (fun x => octs x 4) ++ (ahd ns (many ns.length)).flatMap (fun x => octs x 2)) ++ lows.flatMap (fun x => octs x 2)
theorem treeO_LO {ns lows : List Int} (h : IsBits ns) : treeO ns lows = [2] ++ octs (ns.length : Int) 2 ++ LO ns (many ns.length) ++ lows.flatMap (fun x => octs x 2) := by
  unfold treeO LO packs
  rw [blocks_octs h]
theorem treeO_length {ns lows : List Int} (h : IsBits ns) : (treeO ns lows).length = 3 + (4 * many ns.length + 2 * (many ns.length + 1)) + 2 * lows.length := by
  rw [treeO_LO h, List.length_append, List.length_append, List.length_append, octs_length, LO_length, flat_len]
  rfl

/-- brackets of a tree behind a beginning of height u -/
theorem back_brk : ∀ (ns : List Int) (u : Int), IsBits ns → 0 ≤ u → (∀ k, k < ns.length → 0 < u + ht ns k) → u + ht ns ns.length = 0 → ∃ ds, Dp ds u ∧ brk ds u = ns ∧ (∀ d ∈ ds, 1 ≤ d)
  | [], u, _, hu, _, he => ⟨[], hu, by
      have : u = 0 := by
        have e : ht ([] : List Int) 0 = 0 := ht_zero _
        have e2 : u + ht ([] : List Int) 0 = 0 := he
        omega
      subst this
      rfl, fun d hd => by simp at hd⟩
  | b :: r, u, hb, hu, hp, he => by
    have h0 : 0 < u := by
      have := hp 0 (by simp)
      rw [ht_zero] at this
      omega
    have hh : ∀ k, ht (b :: r) (k + 1) = 2 * b - 1 + ht r k := fun k => by
      unfold ht
      rw [List.take_succ_cons, List.sum_cons]
      omega
    have hp' : ∀ k, k < r.length → 0 < u + (2 * b - 1) + ht r k := fun k hk => by
      have := hp (k + 1) (by rw [List.length_cons]; omega)
      rw [hh] at this
      omega
    have he' : u + (2 * b - 1) + ht r r.length = 0 := by
      have : u + ht (b :: r) (r.length + 1) = 0 := he
      rw [hh] at this
      omega
    rcases hb.head with rfl | rfl
    · obtain ⟨ds, h1, h2, h3⟩ := back_brk r (u + (2 * 0 - 1)) hb.tail (by omega) hp' he'
      cases ds with
      | nil =>
        refine ⟨[], hu, ?_, h3⟩
        rw [← h2]
        show List.replicate u.toNat (0 : Int) = 0 :: List.replicate (u + (2 * 0 - 1)).toNat 0
        rw [show u.toNat = (u + (2 * 0 - 1)).toNat + 1 by omega, List.replicate_succ]
      | cons d ds =>
        obtain ⟨a1, a2, a3⟩ := h1
        refine ⟨d :: ds, ⟨a1, by omega, a3⟩, ?_, h3⟩
        rw [← h2]
        show List.replicate (u - d).toNat (0 : Int) ++ _ = 0 :: (List.replicate (u + (2 * 0 - 1) - d).toNat 0 ++ _)
        rw [show (u - d).toNat = (u + (2 * 0 - 1) - d).toNat + 1 by omega, List.replicate_succ, List.cons_append]
    · obtain ⟨ds, h1, h2, h3⟩ := back_brk r (u + (2 * 1 - 1)) hb.tail (by omega) hp' he'
      refine ⟨u :: ds, ⟨hu, Int.le_refl _, by rw [show u + (2 * 1 - 1) = u + 1 by omega] at h1; exact h1⟩, ?_, fun d hd => ?_⟩
      · show List.replicate (u - u).toNat (0 : Int) ++ 1 :: brk ds (u + 1) = _
        rw [show u + (2 * 1 - 1) = u + 1 by omega] at h2
        rw [Int.sub_self, h2]
        rfl
      · rcases List.mem_cons.mp hd with rfl | hd
        · omega
        · exact h3 d hd
theorem dp_next : ∀ {ds : List Int} {u : Int}, Dp ds u → ∀ (i : Nat) (x y : Int), ds[i]? = some x → ds[i + 1]? = some y → y ≤ x + 1
  | [], _, _, i, x, y, e, _ => by simp at e
  | d :: r, u, h, 0, x, y, e, e2 => by
    cases e
    cases r with
    | nil => simp at e2
    | cons z r =>
      cases e2
      exact h.2.2.2.1
  | d :: r, u, h, i + 1, x, y, e, e2 => dp_next h.2.2 i x y (by simpa using e) (by simpa using e2)
theorem tree_brk {ns : List Int} (hb : IsBits ns) (ht' : Tree ns) : ∃ ds, GoodD ds ∧ brk ds 0 = ns := by
  obtain ⟨h2, h0, hp⟩ := ht'
  cases ns with
  | nil => simp at h2
  | cons b r =>
    have hh : ∀ k, ht (b :: r) (k + 1) = 2 * b - 1 + ht r k := fun k => by
      unfold ht
      rw [List.take_succ_cons, List.sum_cons]
      omega
    have hb1 : b = 1 := by
      rcases hb.head with e | e
      · have := hp 1 (by omega) (by omega)
        rw [hh 0, ht_zero] at this
        omega
      · exact e
    subst hb1
    obtain ⟨ds, a1, a2, a3⟩ := back_brk r 1 hb.tail (by decide) (fun k hk => by
      have := hp (k + 1) (by omega) (by rw [List.length_cons]; omega)
      rw [hh] at this
      omega) (by
      have : ht (1 :: r) (r.length + 1) = 0 := h0
      rw [hh] at this
      omega)
    have dp : Dp (0 :: ds) 0 := ⟨by decide, by decide, a1⟩
    refine ⟨0 :: ds, ⟨rfl, fun i x y e e2 => ⟨?_, dp_next dp i x y e e2⟩⟩, ?_⟩
    · have : ds[i]? = some y := by simpa using e2
      exact a3 y (List.mem_of_getElem? this)
    · show List.replicate ((0 : Int) - 0).toNat (0 : Int) ++ 1 :: brk ds (0 + 1) = _
      rw [Int.sub_self, Int.zero_add, a2]
      rfl
section
variable {P : Program} {w : World} {K : PySem.W.Frag} {mg : Str → Option Value} {base : Heap} {a : Ad}
theorem band_one (x : Int) : Builtin.bitAnd x 1 = x % 2 := by
  unfold Builtin.bitAnd
  by_cases hx : 0 ≤ x
  · simp [hx]
    omega
  · simp [hx]
    unfold Builtin.bitNot
    omega
def sp_bit_in : Sp := fun vs H Q _ => ∃ (b k : Int), vs = [.int b, .int k] ∧ 0 ≤ k ∧ Q (.int (bit b k.toNat)) H
theorem ok_bit_in (T : Tx K mg a) : FnOk P w K mg base CX0 1 a.f_bit_in a.fd_bit_in ["block", "k"] sp_bit_in := by
  refine T.D_bit_in.F.ok sc_bit_in (fun vs H Q E h => ?_) (fun cdv A outer s H vs Q E hr h => ?_)
  · obtain ⟨b, k, rfl, _⟩ := h
    rfl
  obtain ⟨b, k, rfl, h0, q⟩ := h
  refine ⟨_, (pss_one (ps_ret (pe_op op_and (pe_op op_shr (pv 0) (pv 1)) pe_int))), ?_⟩
  refine ⟨_, rfl, _, rfl, _, _, rfl, rfl, h0, _, _, rfl, rfl, ?_⟩
  have e : Builtin.bitAnd (b / 2 ^ k.toNat) 1 = bit b k.toNat := band_one _
  show Q (.int (Builtin.bitAnd (b / 2 ^ k.toNat) 1)) H
  rw [e]
  exact q

def sp_bits_of : Sp := fun vs H Q _ => ∃ (b n : Int), vs = [.int b, .int n] ∧ 0 ≤ n ∧ n ≤ 32 ∧ ∀ r, H r = none → Q (.ref r) (upd H r (.lst ((bits b n.toNat).map V.int)))
theorem ok_bits_of (T : Tx K mg a) : FnOk P w K mg base CX0 2 a.f_bits_of a.fd_bits_of ["block", "upto"] sp_bits_of := by
  refine T.D_bits_of.F.ok sc_bits_of (fun vs H Q E h => ?_) (fun cdv A outer s H vs Q E hr h => ?_)
  · obtain ⟨b, n, rfl, _⟩ := h
    rfl
  obtain ⟨b, n, rfl, h0, h1, q⟩ := h
  refine ⟨_, (pss_one (ps_ret (pe_comp rfl (CompOk.one (j := 0) rfl (Or.inl rfl) rfl rfl (Or.inl rfl)) (pi_range1 rfl T.b_range (pa_cons (pv 1) pa_nil)) (fun _ _ _ _ => pts_nil) (fun _ _ _ _ => (pe_cD T.D_bit_in (ok_bit_in T) (by decide) hr pass0 rfl (pa_cons (pv 1) (pa_cons (pv 0) pa_nil))))))), ?_⟩
  refine ⟨_, rfl, n, rfl, by omega, by omega, ?_⟩
  refine comp_rngS (fun j => bit b j) (by rw [sizeLine_eq]; omega) (fun _ _ _ q => q) (fun j H' Q hj sm q => ⟨_, rfl, _, rfl, _, _, rfl, by omega, ?_⟩) fun D hD => q D hD
  rw [show ((0 : Int) + (j : Int)).toNat = j from by omega]
  exact q

def sp_ones_in : Sp := fun vs H Q _ => ∃ (b n : Int), vs = [.int b, .int n] ∧ 0 ≤ n ∧ n ≤ 32 ∧ ∀ H', Same H H' → Q (.int (ones b n.toNat)) H'
theorem ok_ones_in (T : Tx K mg a) : FnOk P w K mg base CX0 3 a.f_ones_in a.fd_ones_in ["block", "upto"] sp_ones_in := by
  refine T.D_ones_in.F.ok sc_ones_in (fun vs H Q E h => ?_) (fun cdv A outer s H vs Q E hr h => ?_)
  · obtain ⟨b, n, rfl, _⟩ := h
    rfl
  obtain ⟨b, n, rfl, h0, h1, q⟩ := h
  refine ⟨_, (pss_one (ps_ret (pe_callB (call_sum rfl) rfl T.b_sum Tw.bt_sum (pa_cons (pe_cD T.D_bits_of (ok_bits_of T) (by decide) hr pass0 rfl (pa_cons (pv 0) (pa_cons (pv 1) pa_nil))) pa_nil)))), ?_⟩
  exact ⟨_, rfl, _, rfl, b, n, rfl, h0, h1, fun r hr' => ⟨r, bits b n.toNat, rfl, SqL.of upd_same, q _ (same_new hr' _)⟩⟩

def sp_block_of (K : PySem.W.Frag) : Sp := fun vs H Q _ => ∃ (p : Addr) (ns : List Int), vs = [.ref p] ∧ SqL K H p (ns.map V.int) ∧ Q (.int (blk ns)) H
theorem ok_block_of (T : Tx K mg a) : FnOk P w K mg base CX0 1 a.f_block_of a.fd_block_of ["bits"] (sp_block_of K) := by
  refine T.D_block_of.F.ok sc_block_of (fun vs H Q E h => ?_) (fun cdv A outer s H vs Q E hr h => ?_)
  · obtain ⟨p, ns, rfl, _⟩ := h
    rfl
  obtain ⟨p, ns, rfl, hS, q⟩ := h
  refine ⟨_, (pss_cons (ps_set (i := 1) sc_block_of.nd rfl (Or.inl rfl) pe_int)
    (pss_cons (ps_for PassesOwn.never rfl (pi_rev rfl T.b_reversed (pa_cons (pv 0) pa_nil) Tw.bt_reversed) (pg_name (i := 2) sc_block_of.nd rfl (Or.inl rfl)) (pss_one (ps_set (i := 1) sc_block_of.nd rfl (Or.inl rfl) (pe_op op_add (pe_op op_mul pe_int (pv 1)) (pv 2)))))
    (pss_one (ps_ret (pv 1))))), ?_⟩
  refine ⟨_, rfl, p, _, rfl, hS, ?_⟩
  refine for_rev (xs := ns.map V.int) (fun i σ H' => (∃ k, σ = [some (.ref p), some (.int (blk (ns.drop (ns.length - i)))), k]) ∧ H' = H) ?_ ?_ ?_ ?_
  · refine ⟨⟨none, ?_⟩, rfl⟩
    rw [Nat.sub_zero, List.drop_length]
    rfl
  · rintro i σ H' _ ⟨_, rfl⟩
    exact hS
  · rintro i x σ H' hi hx ⟨⟨k, rfl⟩, rfl⟩
    obtain ⟨c, hc, rfl⟩ := int_at hx
    rw [List.length_map] at hi hc
    refine ⟨_, rfl, _, _, rfl, rfl, .inl ⟨by decide, by decide⟩, _, rfl, _, _, rfl, rfl, ⟨some (.int c), ?_⟩, rfl⟩
    have e : ns.drop (ns.length - (i + 1)) = c :: ns.drop (ns.length - i) := by
      have e1 : ns.length - (i + 1) = ns.length - 1 - i := by omega
      have e2 : ns.length - i = ns.length - 1 - i + 1 := by omega
      rw [e1, e2, List.drop_eq_getElem_cons (by omega)]
      congr 1
      have := List.getElem?_eq_some_iff.mp hc
      exact this.2
    rw [e]
    rfl
  · rintro σ H' ⟨⟨k, rfl⟩, rfl⟩
    rw [List.length_map, Nat.sub_self, List.drop_zero]
    exact ⟨_, rfl, q⟩

def sp_whole : Sp := fun vs H Q _ => ∃ i : Int, vs = [.int i] ∧ Q (.bl true) H
theorem ok_law_whole (T : Tx K mg a) : FnOk P w K mg base CX0 1 a.f_law_whole a.fd_law_whole ["_law_found"] sp_whole := by
  refine T.D_law_whole.F.ok sc_law_whole (fun vs H Q E h => ?_) (fun cdv A outer s H vs Q E hr h => ?_)
  · obtain ⟨i, rfl, _⟩ := h
    rfl
  obtain ⟨i, rfl, q⟩ := h
  refine ⟨_, (pss_one (ps_ret (pe_and (pe_callB call_isi rfl T.b_isinstance Tw.bt_isinstance (pa_cons (pv 0) (pa_cons (pe_bltn (v := .ty "int") rfl T.b_int Tw.bt_int rfl) pa_nil))) (pe_one (pe_not (pe_callB call_isi rfl T.b_isinstance Tw.bt_isinstance (pa_cons (pv 0) (pa_cons (pe_bltn (v := .ty "bool") rfl T.b_bool Tw.bt_bool rfl) pa_nil)))))))), ?_⟩
  refine ⟨_, rfl, _, "int", _, true, rfl, .int i, rfl, true, rfl, iteT ?_⟩
  exact ⟨_, rfl, _, "bool", _, false, rfl, .int i, rfl, false, rfl, q⟩

def sp_check_row (K : PySem.W.Frag) (C1 C2 : Addr) : Sp := fun vs H Q E => ∃ (p : Addr) (ns : List Int), vs = [.ref p] ∧ SqL K H p (ns.map V.int) ∧
  ((ns.length ≤ 4096 ∧ IsBits ns ∧ Q .non H) ∨ (4096 < ns.length ∧ E (.ref C1) none H) ∨ (ns.length ≤ 4096 ∧ ¬ IsBits ns ∧ E (.ref C2) none H))
theorem ok_check_row (T : Tx K mg a) : FnOk P w K mg base (CXC P w) 1 a.f_check_row a.fd_check_row ["bits"] (sp_check_row K a.c_TooMany a.c_NoBit) := by
  refine T.D_check_row.F.okC sc_check_row (fun vs H Q E h => ?_) (fun cdv A outer s H vs Q E hr h => ?_)
  · obtain ⟨p, ns, rfl, _⟩ := h
    rfl
  obtain ⟨p, ns, rfl, hS, h⟩ := h
  refine ⟨_, (pss_cons (ps_if (pt_cmpR op_gt (pe_callB call_len_seq rfl T.b_len Tw.bt_len (pa_cons (pv 0) pa_nil)) (pe_glob (v := .int 4096) rfl T.c_MOST_BITS ⟨_, rfl⟩) (nomark _)) (pss_one (ps_raiseC T.x_TooMany rfl (pa_cons pe_str pa_nil))) pss_nil)
    (pss_one (ps_for passOwnC rfl (pi_list (pv 0)) (pg_name (i := 1) sc_check_row.nd rfl (Or.inl rfl)) (pss_one (ps_if (PW.pt (pw_and (pt_cmpR op_ne (pv 1) pe_int (nomark _)) (pw_and1 (pt_cmpR op_ne (pv 1) pe_int (nomark _))))) (pss_one (ps_raiseC T.x_NoBit rfl (pa_cons pe_str pa_nil))) pss_nil))))), ?_⟩
  refine ⟨_, rfl, p, _, rfl, .inl hS, _, _, rfl, rfl, _, rfl, ite2 (fun c => ?_) fun c => ?_⟩
  · have c := of_decide_eq_true c
    rw [List.length_map] at c
    rcases h with ⟨h1, _⟩ | ⟨_, q⟩ | ⟨h1, _⟩
    · omega
    · exact ⟨(by show 1 ≤ sizeLine; decide), q⟩
    · omega
  have c : ¬ (4096 : Int) < ((ns.map V.int).length : Int) := fun z => c (decide_eq_true z)
  rw [List.length_map] at c
  refine ⟨_, rfl, p, rfl, ⟨_, hS⟩, ?_⟩
  refine for_list (xs := ns.map V.int) (fun i σ H' => (∃ k, σ = [some (.ref p), k]) ∧ H' = H ∧ IsBits (ns.take i)) ⟨⟨none, rfl⟩, rfl, fun x hx => by simp at hx⟩ ?_ ?_ ?_
  · rintro i σ H' _ ⟨_, rfl, _⟩
    exact hS
  · rintro i x σ H' hx ⟨⟨k, rfl⟩, rfl, hb⟩
    obtain ⟨c, hc, rfl⟩ := int_at hx
    have nxt : c = 0 ∨ c = 1 → IsBits (ns.take (i + 1)) := fun e x hx => by
      rw [List.take_add_one, hc] at hx
      rcases List.mem_append.mp hx with hx | hx
      · exact hb x hx
      · rw [List.mem_singleton.mp hx]
        exact e
    by_cases c0 : c = 0
    · subst c0
      exact ⟨_, rfl, rfl, _, rfl, iteNS rfl (iteF ⟨⟨_, rfl⟩, rfl, nxt (.inl rfl)⟩)⟩
    by_cases c1 : c = 1
    · subst c1
      refine ⟨_, rfl, rfl, _, rfl, ite2 (fun _ => ⟨_, rfl, rfl, _, rfl, iteNS rfl ⟨⟨_, rfl⟩, rfl, nxt (.inr rfl)⟩⟩) fun z => absurd ?_ z⟩
      decide
    refine ⟨_, rfl, rfl, _, rfl, ite2 (fun _ => ⟨_, rfl, rfl, _, rfl, ite2 (fun _ => ?_) fun z => absurd ?_ z⟩) fun z => absurd ?_ z⟩
    · rcases h with ⟨_, h1, _⟩ | ⟨h1, _⟩ | ⟨_, _, q⟩
      · rcases h1 c (List.mem_of_getElem? hc) with e | e
        · exact absurd e c0
        · exact absurd e c1
      · omega
      · exact ⟨(by show 1 ≤ sizeLine; decide), q⟩
    · rw [dec_int]
      simp [c1]
    · rw [dec_int]
      simp [c0]
  · rintro σ H' ⟨_, rfl, hb⟩
    rw [List.length_map, List.take_length] at hb
    rcases h with ⟨_, _, q⟩ | ⟨h1, _⟩ | ⟨_, h1, _⟩
    · exact q
    · omega
    · exact absurd hb h1

def sp_packed (K : PySem.W.Frag) : Sp := fun vs H Q _ => ∃ (p : Addr) (ns : List Int), vs = [.ref p] ∧ SqL K H p (ns.map V.int) ∧ ns.length ≤ 4096 ∧ IsBits ns ∧ ∀ r H', H r = none → Same H H' → H' r = some (.lst ((packs ns).map V.int)) → Q (.ref r) H'
theorem ok_packed (T : Tx K mg a) : FnOk P w K mg base CX0 2 a.f_packed a.fd_packed ["bits"] (sp_packed K) := by
  refine T.D_packed.F.ok sc_packed (fun vs H Q E h => ?_) (fun cdv A outer s H vs Q E hr h => ?_)
  · obtain ⟨p, ns, rfl, _⟩ := h
    rfl
  obtain ⟨p, ns, rfl, hS, hl, hb, q⟩ := h
  refine ⟨_, (pss_cons (ps_expr (pe_cD T.D_check_row (ok_check_row T) (by decide) hr passNC rfl (pa_cons (pv 0) pa_nil)))
    (pss_one (ps_ret (pe_comp rfl (CompOk.one (j := 0) rfl (Or.inl rfl) rfl rfl (Or.inl rfl)) (pi_range3 rfl T.b_range (pa_cons pe_int (pa_cons (pe_callB call_len_seq rfl T.b_len Tw.bt_len (pa_cons (pv 0) pa_nil)) (pa_cons (pe_glob (v := .int 32) rfl T.c_BLOCK_BITS ⟨_, rfl⟩) pa_nil)))) (fun _ _ _ _ => pts_nil) (fun _ _ _ _ => (pe_cD T.D_block_of (ok_block_of T) (by decide) hr pass0 rfl (pa_cons (pe_slice (show SlR _ (rSlL K) from sl_list) (pv 1) (po_some (pv 0)) (po_some (pe_op op_add (pv 0) (pe_glob (v := .int 32) rfl T.c_BLOCK_BITS ⟨_, rfl⟩)))) pa_nil))))))), ?_⟩
  refine ⟨_, rfl, p, ns, rfl, hS, .inl ⟨hl, hb, ?_⟩⟩
  refine ⟨_, rfl, p, _, rfl, .inl hS, (ns.map V.int).length, rfl, ?_, ?_⟩
  · rw [List.length_map]
    exact Nat.lt_of_le_of_lt hl (by decide)
  rw [List.length_map]
  intro D hD
  refine ⟨fun i m ys H1 => m = many ns.length - i ∧ i ≤ many ns.length ∧ ys = ((List.range i).map (blkAt ns)).map V.int ∧ Same H H1 ∧ H1 D = some (.lst ys), ⟨_, rfl, Nat.zero_le _, rfl, same_new hD _, upd_same⟩, ?_⟩
  rintro i m ys H1 ⟨rfl, hi, rfl, sm, hD1⟩
  by_cases hlt : i < many ns.length
  · refine .inr ⟨hlt, fun v H2 y => ?_⟩
    obtain ⟨rfl, rfl⟩ := y
    unfold tNoIf
    refine iteT ?_
    refine ⟨_, rfl, _, rfl, _, rfl, _, rfl, _, _, rfl, rfl, _, rfl, p, _, rfl, sm.seq hS, fun p2 hp2 => ?_⟩
    have e1 : (0 : Int) + (i : Int) * 32 = ((32 * i : Nat) : Int) := by omega
    have e2 : (0 : Int) + (i : Int) * 32 + 32 = ((32 * i + 32 : Nat) : Int) := by omega
    rw [e1, show ((32 * i : Nat) : Int) + 32 = ((32 * i + 32 : Nat) : Int) from by omega, cut_nat, Nat.add_sub_cancel_left]
    refine ⟨p2, _, rfl, SqL.of upd_same, ?_⟩
    have ne : D ≠ p2 := ne_of_none hD1 hp2
    refine ⟨by rw [upd_ne ne]; exact hD1, ?_, many ns.length - (i + 1), by omega, rfl, hlt, ?_, same_set (sm.trans (same_new hp2 _)) hD _, upd_same⟩
    · rw [List.length_map, List.length_map, List.length_range]
      unfold many at hlt
      exact small (by omega)
    · rw [List.range_succ, List.map_append, List.map_append]
      rfl
  · have e : i = many ns.length := by omega
    subst e
    exact .inl ⟨Nat.le_refl _, q D H1 hD sm hD1⟩

def sp_ahead_of (K : PySem.W.Frag) : Sp := fun vs H Q _ => ∃ (p : Addr) (bs : List Int), vs = [.ref p] ∧ SqL K H p (bs.map V.int) ∧ bs.length ≤ 4096 ∧ ∀ r H', H r = none → Same H H' → H' r = some (.tup ((aheads bs bs.length).map V.int)) → Q (.ref r) H'
theorem ok_ahead_of (T : Tx K mg a) : FnOk P w K mg base CX0 4 a.f_ahead_of a.fd_ahead_of ["blocks"] (sp_ahead_of K) := by
  refine T.D_ahead_of.F.ok sc_ahead_of (fun vs H Q E h => ?_) (fun cdv A outer s H vs Q E hr h => ?_)
  · obtain ⟨p, bs, rfl, _⟩ := h
    rfl
  obtain ⟨p, bs, rfl, hS, hl, q⟩ := h
  refine ⟨_, (pss_cons (ps_set (i := 1) sc_ahead_of.nd rfl (Or.inl rfl) (pe_lst (pa_cons pe_int pa_nil)))
    (pss_cons (ps_for PassesOwn.never rfl (pi_list (pv 0)) (pg_name (i := 2) sc_ahead_of.nd rfl (Or.inl rfl)) (pss_one (ps_expr (pe_bm PySem.F.plainAttrs_list PySem.F.slot_list_append PySem.F.type_list_append mt_append (pv 1) (pa_cons (pe_op op_add (pe_ix ix_list (pv 1) (pe_un un_neg pe_int) (fun _ _ => rfl)) (pe_cD T.D_ones_in (ok_ones_in T) (by decide) hr pass0 rfl (pa_cons (pv 2) (pa_cons (pe_glob (v := .int 32) rfl T.c_BLOCK_BITS ⟨_, rfl⟩) pa_nil)))) pa_nil)))))
    (pss_one (ps_ret (pe_callTy call_tuple_of rfl T.b_tuple Tw.bt_tuple (pa_cons (pv 1) pa_nil)))))), ?_⟩
  refine ⟨(by show 1 ≤ sizeLine; decide), fun r hr' => ?_⟩
  refine ⟨_, rfl, p, rfl, ⟨_, (same_new hr' _).seq hS⟩, ?_⟩
  refine for_list (xs := bs.map V.int) (fun i σ H' => (∃ k, σ = [some (.ref p), some (.ref r), k]) ∧ Same H H' ∧ H' r = some (.lst ((aheads bs i).map V.int))) ?_ ?_ ?_ ?_
  · exact ⟨⟨none, rfl⟩, same_new hr' _, upd_same⟩
  · rintro i σ H' _ ⟨_, sm, _⟩
    exact sm.seq hS
  · rintro i x σ H' hx ⟨⟨k, rfl⟩, sm, hr1⟩
    obtain ⟨b, hb, rfl⟩ := int_at hx
    have hi := (List.getElem?_eq_some_iff.mp hb).1
    have hla : atI ((aheads bs i).map V.int) (-1) = some (.int (onesTo bs i)) := by
      rw [aheads_last, List.map_append]
      exact atI_last _ _
    refine ⟨_, rfl, .inl ⟨rfl, _, SqL.of hr1⟩, _, rfl, _, rfl, r, _, _, _, rfl, rfl, SqL.of hr1, hla, _, rfl, b, 32, rfl, by decide, by decide, fun H2 sm2 => ⟨_, _, rfl, rfl, r, _, _, rfl, rfl, sm2 _ _ hr1, ?_, ⟨_, rfl⟩, same_set (sm.trans sm2) hr' _, ?_⟩⟩
    · rw [List.length_map, aheads_length]
      exact small (by omega)
    · rw [upd_same, aheads_succ, List.map_append, onesTo_succ hb]
      rfl
  · rintro σ H' ⟨⟨k, rfl⟩, sm, hr1⟩
    rw [List.length_map] at hr1
    exact ⟨_, rfl, r, _, rfl, .inl ⟨SqL.of hr1, fun l hl => q l _ (sm.free hl) (sm.trans (same_new hl _)) upd_same⟩⟩

def sp_nets_of : Sp := fun vs H Q _ => ∃ (b n : Int), vs = [.int b, .int n] ∧ 0 ≤ n ∧ n ≤ 32 ∧ ∀ r H', H r = none → Same H H' → H' r = some (.lst ((nets b n.toNat).map V.int)) → Q (.ref r) H'
theorem ok_nets_of (T : Tx K mg a) : FnOk P w K mg base CX0 3 a.f_nets_of a.fd_nets_of ["block", "upto"] sp_nets_of := by
  refine T.D_nets_of.F.ok sc_nets_of (fun vs H Q E h => ?_) (fun cdv A outer s H vs Q E hr h => ?_)
  · obtain ⟨b, n, rfl, _⟩ := h
    rfl
  obtain ⟨b, n, rfl, h0, h1, q⟩ := h
  refine ⟨_, (pss_cons (ps_set (i := 2) sc_nets_of.nd rfl (Or.inl rfl) (pe_lst pa_nil))
    (pss_cons (ps_set (i := 3) sc_nets_of.nd rfl (Or.inl rfl) pe_int)
    (pss_cons (ps_for PassesOwn.never rfl (pi_list (pe_cD T.D_bits_of (ok_bits_of T) (by decide) hr pass0 rfl (pa_cons (pv 0) (pa_cons (pv 1) pa_nil)))) (pg_name (i := 4) sc_nets_of.nd rfl (Or.inl rfl)) (pss_cons (ps_set (i := 3) sc_nets_of.nd rfl (Or.inl rfl) (pe_op op_sub (pe_op op_add (pv 3) (pe_op op_mul pe_int (pv 4))) pe_int))
    (pss_one (ps_expr (pe_bm PySem.F.plainAttrs_list PySem.F.slot_list_append PySem.F.type_list_append mt_append (pv 2) (pa_cons (pv 3) pa_nil))))))
    (pss_one (ps_ret (pv 2)))))), ?_⟩
  refine ⟨(by show 0 ≤ sizeLine; decide), fun r hr' => ?_⟩
  refine ⟨_, rfl, _, rfl, b, n, rfl, h0, h1, fun p hp => ⟨p, rfl, ⟨_, SqL.of upd_same⟩, ?_⟩⟩
  have ne : r ≠ p := ne_of_none upd_same hp
  refine for_list (xs := (bits b n.toNat).map V.int) (fun i σ H' => (∃ k, σ = [some (.int b), some (.int n), some (.ref r), some (.int (net b i)), k]) ∧ Same H H' ∧ H' r = some (.lst ((nets b i).map V.int)) ∧ H' p = some (.lst ((bits b n.toNat).map V.int))) ?_ ?_ ?_ ?_
  · refine ⟨⟨none, by rw [net_zero]; rfl⟩, (same_new hr' _).trans (same_new hp _), ?_, upd_same⟩
    rw [upd_ne ne, upd_same]
    rfl
  · rintro i σ H' _ ⟨_, _, _, hp'⟩
    exact SqL.of hp'
  · rintro i x σ H' hx ⟨⟨k, rfl⟩, sm, hr1, hp1⟩
    obtain ⟨c, hc, rfl⟩ := int_at hx
    have hi : i < n.toNat := by
      have := (List.getElem?_eq_some_iff.mp hc).1
      rw [bits_length] at this
      exact this
    have ec : c = bit b i := by
      rw [bits_get hi] at hc
      exact (Option.some.inj hc).symm
    subst ec
    refine ⟨_, rfl, _, rfl, _, _, rfl, rfl, .inl ⟨by decide, by decide⟩, _, _, rfl, rfl, _, _, rfl, rfl, ?_⟩
    refine ⟨_, rfl, .inl ⟨rfl, _, SqL.of hr1⟩, _, rfl, r, _, _, rfl, rfl, hr1, ?_, ?_⟩
    · rw [List.length_map, nets_length]
      exact small (by omega)
    · refine ⟨⟨some (.int (bit b i)), by rw [net_succ]; rfl⟩, same_set sm hr' _, ?_, ?_⟩
      · rw [upd_same, nets_succ, net_succ, List.map_append]
        rfl
      · rw [upd_ne (Ne.symm ne)]
        exact hp1
  · rintro σ H' ⟨⟨k, rfl⟩, sm, hr1, hp1⟩
    rw [List.length_map, bits_length] at hr1
    exact ⟨_, rfl, q r H' hr' sm hr1⟩

def sp_low_in : Sp := fun vs H Q _ => ∃ (b n : Int), vs = [.int b, .int n] ∧ 1 ≤ n ∧ n ≤ 32 ∧ ∀ M H', IsMin M (nets b n.toNat) → Same H H' → Q (.int M) H'
theorem ok_low_in (T : Tx K mg a) : FnOk P w K mg base CX0 4 a.f_low_in a.fd_low_in ["block", "upto"] sp_low_in := by
  refine T.D_low_in.F.ok sc_low_in (fun vs H Q E h => ?_) (fun cdv A outer s H vs Q E hr h => ?_)
  · obtain ⟨b, n, rfl, _⟩ := h
    rfl
  obtain ⟨b, n, rfl, h0, h1, q⟩ := h
  refine ⟨_, (pss_one (ps_ret (pe_minD rfl rfl T.b_min (pa_cons (pe_cD T.D_nets_of (ok_nets_of T) (by decide) hr pass0 rfl (pa_cons (pv 0) (pa_cons (pv 1) pa_nil))) pa_nil) pe_int Tw.bt_min))), ?_⟩
  refine ⟨_, rfl, _, rfl, b, n, rfl, by omega, h1, fun p H' hp sm h' => ⟨p, _, rfl, SqL.of h', ?_, fun M hM => q M H' hM sm⟩⟩
  rw [nets_length]
  omega

def sp_size_of : Sp := fun vs H Q _ => ∃ n : Nat, vs = [.int (n : Int)] ∧ n ≤ 100000 ∧ ∀ S, IsSz n S → Q (.int (S : Int)) H
theorem ok_size_of (T : Tx K mg a) : FnOk P w K mg base CX0 1 a.f_size_of a.fd_size_of ["many"] sp_size_of := by
  refine T.D_size_of.F.ok sc_size_of (fun vs H Q E h => ?_) (fun cdv A outer s H vs Q E hr h => ?_)
  · obtain ⟨n, rfl, _⟩ := h
    rfl
  obtain ⟨n, rfl, hn, q⟩ := h
  refine ⟨_, (pss_cons (ps_set (i := 1) sc_size_of.nd rfl (Or.inl rfl) pe_int)
    (pss_cons (ps_while PassesOwn.never (pt_cmpR op_lt (pv 1) (pv 0) (nomark _)) (pss_one (ps_set (i := 1) sc_size_of.nd rfl (Or.inl rfl) (pe_op op_mul pe_int (pv 1)))))
    (pss_one (ps_ret (pv 1))))), ?_⟩
  refine ⟨fun m σ H' => ∃ h : Nat, σ = [some (.int (n : Int)), some (.int ((2 ^ h : Nat) : Int))] ∧ H' = H ∧ m = n - 2 ^ h ∧ ∀ j, j < h → 2 ^ j < n, ⟨_, 0, rfl, rfl, rfl, fun j hj => absurd hj (Nat.not_lt_zero _)⟩, ?_⟩
  rintro m σ H' ⟨h, rfl, rfl, rfl, hj⟩
  refine ⟨_, rfl, _, rfl, _, _, rfl, rfl, _, rfl, ite2 (fun c => ?_) fun c => ?_⟩
  · have c : ((2 ^ h : Nat) : Int) < (n : Int) := of_decide_eq_true c
    have hp : 0 < 2 ^ h := Nat.two_pow_pos h
    refine ⟨_, fun σ' H2 z => z, _, rfl, _, _, rfl, rfl, .inl ⟨by decide, by decide⟩, n - 2 ^ (h + 1), by rw [Nat.pow_succ]; omega, h + 1, ?_, rfl, rfl, fun j hj2 => ?_⟩
    · have e : (2 : Int) * ((2 ^ h : Nat) : Int) = ((2 ^ (h + 1) : Nat) : Int) := by rw [Nat.pow_succ]; omega
      rw [← e]
      rfl
    · rcases Nat.lt_or_ge j h with l | l
      · exact hj j l
      · have : j = h := by omega
        subst this
        omega
  · have c : ¬ ((2 ^ h : Nat) : Int) < (n : Int) := fun z => c (decide_eq_true z)
    exact ⟨_, rfl, q (2 ^ h) ⟨h, rfl, by omega, hj⟩⟩

def sp_lesser : Sp := fun vs H Q _ => ∃ x y : V, vs = [x, y] ∧ NI x ∧ NI y ∧ Q (lessV x y) H
theorem ok_lesser_of (T : Tx K mg a) : FnOk P w K mg base CX0 1 a.f_lesser_of a.fd_lesser_of ["one", "other"] sp_lesser := by
  refine T.D_lesser_of.F.ok sc_lesser_of (fun vs H Q E h => ?_) (fun cdv A outer s H vs Q E hr h => ?_)
  · obtain ⟨x, y, rfl, _⟩ := h
    rfl
  obtain ⟨x, y, rfl, hx, hy, q⟩ := h
  refine ⟨_, (pss_cons (ps_if (pt_cmp (pc_isN (pv 0))) (pss_one (ps_ret (pv 1))) pss_nil)
    (pss_cons (ps_if (pt_cmp (pc_isN (pv 1))) (pss_one (ps_ret (pv 0))) pss_nil)
    (pss_one (ps_ret (pe_callB (call_min2 rfl) rfl T.b_min Tw.bt_min (pa_cons (pv 0) (pa_cons (pv 1) pa_nil))))))), ?_⟩
  rcases hx with rfl | ⟨i, rfl⟩
  · rw [lessV_non] at q
    exact ⟨_, rfl, _, rfl, iteT ⟨_, rfl, q⟩⟩
  refine ⟨_, rfl, _, rfl, iteF ?_⟩
  rcases hy with rfl | ⟨j, rfl⟩
  · exact ⟨_, rfl, _, rfl, iteT ⟨_, rfl, q⟩⟩
  exact ⟨_, rfl, _, rfl, iteF ⟨_, rfl, _, rfl, i, j, rfl, q⟩⟩

def sp_heap_of (K : PySem.W.Frag) : Sp := fun vs H Q E => ∃ (p : Addr) (ns : List Int), vs = [.ref p] ∧ SqL K H p (ns.map V.int) ∧
  ns.length ≤ 4096 ∧ ∀ S r H' xs, IsSz ns.length S → H r = none → Same H H' → H' r = some (.lst xs) → HInv ns S 1 xs → Q (.ref r) H'
theorem ok_heap_of (T : Tx K mg a) : FnOk P w K mg base CX0 2 a.f_heap_of a.fd_heap_of ["numbers"] (sp_heap_of K) := by
  refine T.D_heap_of.F.ok sc_heap_of (fun vs H Q E h => ?_) (fun cdv A outer s H vs Q E hr h => ?_)
  · obtain ⟨p, ns, rfl, _⟩ := h
    rfl
  obtain ⟨p, ns, rfl, hS, hl, q⟩ := h
  refine ⟨_, (pss_cons (ps_if (pt_cmpR op_gt (pe_callB call_len_seq rfl T.b_len Tw.bt_len (pa_cons (pv 0) pa_nil)) (pe_glob (v := .int 4096) rfl T.c_MOST_NUMBERS ⟨_, rfl⟩) (nomark _)) (pss_one ps_never) pss_nil)
    (pss_cons (ps_set (i := 1) sc_heap_of.nd rfl (Or.inl rfl) (pe_cD T.D_size_of (ok_size_of T) (by decide) hr pass0 rfl (pa_cons (pe_callB call_len_seq rfl T.b_len Tw.bt_len (pa_cons (pv 0) pa_nil)) pa_nil)))
    (pss_cons (ps_set (i := 2) sc_heap_of.nd rfl (Or.inl rfl) (pe_op op_cat (pe_op op_cat (pe_op op_rep (pe_lst (pa_cons pe_non pa_nil)) (pv 1)) (pe_callTy call_list_of rfl T.b_list Tw.bt_list (pa_cons (pv 0) pa_nil))) (pe_op op_rep (pe_lst (pa_cons pe_non pa_nil)) (pe_op op_sub (pv 1) (pe_callB call_len_seq rfl T.b_len Tw.bt_len (pa_cons (pv 0) pa_nil))))))
    (pss_cons (ps_for PassesOwn.never rfl (pi_rangeDn rfl T.b_range (pa_cons (pe_op op_sub (pv 1) pe_int) (pa_cons pe_int (pa_cons (pe_un un_neg pe_int) pa_nil)))) (pg_name (i := 3) sc_heap_of.nd rfl (Or.inl rfl)) (pss_one (ps_asg (pe_cD T.D_lesser_of (ok_lesser_of T) (by decide) hr pass0 rfl (pa_cons (pe_ix ix_list (pv 2) (pe_op op_mul pe_int (pv 3)) (fun _ _ => rfl)) (pa_cons (pe_ix ix_list (pv 2) (pe_op op_add (pe_op op_mul pe_int (pv 3)) pe_int) (fun _ _ => rfl)) pa_nil))) (pg_sub (pv 2) (pv 3) set_list))))
    (pss_one (ps_ret (pv 2))))))), ?_⟩
  have ern : (ns.map V.int).length = ns.length := List.length_map ..
  refine ⟨_, rfl, p, _, rfl, .inl hS, _, _, rfl, rfl, _, rfl, ite2 (fun z => ?_) fun _ => ?_⟩
  · have z : (4096 : Int) < ((ns.map V.int).length : Int) := of_decide_eq_true z
    omega
  refine ⟨_, rfl, p, _, rfl, .inl hS, ns.length, ?_, by omega, fun S hSz => ?_⟩
  · rw [ern]
    rfl
  have hS0 := hSz.pos
  have hS4 := hSz.le hl
  have hlS : ns.length ≤ S := by
    obtain ⟨_, _, z, _⟩ := hSz
    exact z
  refine rep_way (t := tCons (tC .non) tNil) (σ := [some (.ref p), some (.int (S : Int)), none, none]) (i := 1) (k := (S : Int)) (xs := [.non]) (fun Q' q => q) rfl (by omega) (by decide) (by omega) fun p1 H1 hp1 s1 x1 => ?_
  refine ⟨_, rfl, p, _, rfl, .inl (s1.seq hS), fun l2 hl2 => ?_⟩
  have s2 := same_new hl2 (.lst (ns.map V.int))
  have e1 : (List.replicate (S : Int).toNat [V.non]).flatten = List.replicate S V.non := by
    rw [Int.toNat_natCast]
    simp
  rw [e1] at x1
  refine ⟨p1, l2, _, _, rfl, rfl, s2 _ _ x1, upd_same, ?_, fun p3 hp3 => ?_⟩
  · rw [ern, List.length_replicate, sizeLine_eq]
    omega
  have s3 := same_new hp3 (.lst (List.replicate S V.non ++ ns.map V.int))
  refine ⟨(by show 1 ≤ sizeLine; decide), fun l4 hl4 => ?_⟩
  have s4 := same_new hl4 (.lst [.non])
  have s14 := s1.trans (s2.trans (s3.trans s4))
  refine ⟨_, rfl, _, rfl, p, _, rfl, .inl (s14.seq hS), _, _, rfl, rfl, l4, ((S - ns.length : Nat) : Int), [.non], rfl, ?_, upd_same, by omega, by omega, ?_, fun p5 hp5 => ?_⟩
  · show V.int ((S : Int) - ((ns.map V.int).length : Int)) = _
    rw [ern]
    exact congrArg V.int (by omega)
  · rw [sizeLine_eq]
    show 1 * _ ≤ _
    omega
  have e5 : (List.replicate ((S - ns.length : Nat) : Int).toNat [V.non]).flatten = List.replicate (S - ns.length) V.non := by
    rw [Int.toNat_natCast]
    simp
  rw [e5]
  have s5 := same_new hp5 (.lst (List.replicate (S - ns.length) V.non))
  refine ⟨p3, p5, _, _, rfl, rfl, s5 _ _ (s4 _ _ upd_same), upd_same, ?_, fun r hr' => ?_⟩
  · rw [List.length_append, ern, List.length_replicate, List.length_replicate, sizeLine_eq]
    omega
  have s15 := s14.trans s5
  have hr0 := s15.free hr'
  have s6 := s15.trans (same_new hr' (.lst (List.replicate S V.non ++ ns.map V.int ++ List.replicate (S - ns.length) V.non)))
  refine ⟨_, rfl, _, _, rfl, rfl, _, rfl, S - 1, 0, ?_, by omega, by omega, ?_⟩
  · rw [show ((S - 1 : Nat) : Int) = (S : Int) - 1 from by omega]
    rfl
  refine for_step (n := S - 1 - 0) (fun i σ H' => (∃ k3, σ = [some (.ref p), some (.int (S : Int)), some (.ref r), k3]) ∧ Same H H' ∧ ∃ xs, H' r = some (.lst xs) ∧ HInv ns S (S - i) xs) ⟨⟨none, rfl⟩, s6, _, upd_same, HInv.start hS0 hlS⟩ ?_ ?_
  · rintro i σ H' hi ⟨⟨k3, rfl⟩, sm, xs, hr1, hv⟩
    obtain ⟨k, rfl⟩ : ∃ k, S = k + i + 1 := ⟨S - i - 1, by omega⟩
    have ek : ((k + i + 1 - 1 : Nat) : Int) + (i : Int) * (-1) = (k : Int) := by omega
    rw [show k + i + 1 - i = k + 1 from by omega] at hv
    have hlen := hv.len
    have hx : xs[2 * k]? = some xs[2 * k] := List.getElem?_eq_getElem (by omega)
    have hy : xs[2 * k + 1]? = some xs[2 * k + 1] := List.getElem?_eq_getElem (by omega)
    have ha : atI xs (2 * (((k + i + 1 - 1 : Nat) : Int) + (i : Int) * (-1))) = some xs[2 * k] := by
      rw [ek, show 2 * (k : Int) = ((2 * k : Nat) : Int) from by omega]
      exact atI_V hx
    have hb : atI xs (2 * (((k + i + 1 - 1 : Nat) : Int) + (i : Int) * (-1)) + 1) = some xs[2 * k + 1] := by
      rw [ek, show 2 * (k : Int) + 1 = ((2 * k + 1 : Nat) : Int) from by omega]
      exact atI_V hy
    have hix : ixN xs.length (((k + i + 1 - 1 : Nat) : Int) + (i : Int) * (-1)) = some k := by
      rw [ek]
      exact ixN_nat (by omega)
    refine ⟨_, rfl, _, rfl, _, _, rfl, rfl, .inl ⟨by decide, by decide⟩, r, _, _, _, rfl, rfl, SqL.of hr1, ha, ?_⟩
    refine ⟨_, rfl, _, rfl, _, _, rfl, rfl, .inl ⟨by decide, by decide⟩, _, _, rfl, rfl, r, _, _, _, rfl, rfl, SqL.of hr1, hb, ?_⟩
    refine ⟨_, _, rfl, hv.ni _ (List.getElem_mem _), hv.ni _ (List.getElem_mem _), ?_⟩
    refine ⟨_, rfl, _, rfl, r, _, _, k, rfl, rfl, hr1, hix, ⟨_, rfl⟩, same_set sm hr0 _, _, upd_same, ?_⟩
    rw [show k + i + 1 - (i + 1) = k from by omega]
    exact hv.step (by omega) (by omega) hx hy
  · rintro σ H' ⟨⟨k3, rfl⟩, sm, xs, hr1, hv⟩
    rw [show S - (S - 1 - 0) = 1 from by omega] at hv
    exact ⟨_, rfl, q S r H' xs hSz hr0 sm hr1 hv⟩

def sp_is_tree (K : PySem.W.Frag) : Sp := fun vs H Q _ => ∃ (p : Addr) (ns : List Int), vs = [.ref p] ∧ SqL K H p (ns.map V.int) ∧ ∀ b H', (b = true ↔ Tree ns) → Same H H' → Q (.bl b) H'
theorem ok_is_tree (T : Tx K mg a) : FnOk P w K mg base CX0 1 a.f_is_tree a.fd_is_tree ["bits"] (sp_is_tree K) := by
  refine T.D_is_tree.F.ok sc_is_tree (fun vs H Q E h => ?_) (fun cdv A outer s H vs Q E hr h => ?_)
  · obtain ⟨p, ns, rfl, _⟩ := h
    rfl
  obtain ⟨p, ns, rfl, hS, q⟩ := h
  refine ⟨_, (pss_cons (ps_set (i := 1) sc_is_tree.nd rfl (Or.inl rfl) pe_int)
    (pss_cons (ps_for PassesOwn.never rfl (pi_enum rfl T.b_enumerate (pa_cons (pv 0) pa_nil)) (pg_tup rfl (pgs_cons (pg_name (i := 2) sc_is_tree.nd rfl (Or.inl rfl)) (pgs_cons (pg_name (i := 3) sc_is_tree.nd rfl (Or.inl rfl)) pgs_nil))) (pss_cons (ps_if (PW.pt (pw_and (pt_cmpR op_gt (pv 2) pe_int (nomark _)) (pw_and1 (pt_cmpR op_le (pv 1) pe_int (nomark _))))) (pss_one (ps_ret pe_bl)) pss_nil)
    (pss_one (ps_set (i := 1) sc_is_tree.nd rfl (Or.inl rfl) (pe_op op_sub (pe_op op_add (pv 1) (pe_op op_mul pe_int (pv 3))) pe_int)))))
    (pss_one (ps_ret (pe_and (pe_cmpR op_ge (pe_callB call_len_seq rfl T.b_len Tw.bt_len (pa_cons (pv 0) pa_nil)) pe_int (nomark _)) (pe_one (pe_cmpR op_eq (pv 1) pe_int (nomark _)))))))), ?_⟩
  refine ⟨_, rfl, p, _, rfl, hS, ?_⟩
  refine for_enum (xs := ns.map V.int) (fun i σ H' => (∃ k2 k3, σ = [some (.ref p), some (.int (ht ns i)), k2, k3]) ∧ Same H H' ∧ ∀ k, 0 < k → k < i → 0 < ht ns k) ⟨⟨none, none, by rw [ht_zero]; rfl⟩, Same.refl _, fun k _ h => absurd h (Nat.not_lt_zero _)⟩ ?_ ?_ ?_
  · rintro i σ H' _ ⟨_, sm, _⟩
    exact sm.seq hS
  · rintro i x σ H' pt hx ⟨⟨k2, k3, rfl⟩, sm, up⟩ hpt
    obtain ⟨b, hb, rfl⟩ := int_at hx
    have hi := (List.getElem?_eq_some_iff.mp hb).1
    have sm' := sm.trans (same_new hpt (.tup [.int (i : Int), .int b]))
    refine ⟨pt, _, rfl, SqT.of upd_same, rfl, _, _, rfl, _, _, rfl, rfl, ?_⟩
    have go : (0 < i → 0 < ht ns i) → (∃ k2 k3, [some (V.ref p), some (.int (ht ns i + 2 * b - 1)), some (.int (i : Int)), some (.int b)] = [some (.ref p), some (.int (ht ns (i + 1))), k2, k3]) ∧ Same H (upd H' pt (.tup [.int (i : Int), .int b])) ∧ ∀ k, 0 < k → k < i + 1 → 0 < ht ns k := fun h =>
      ⟨⟨_, _, by rw [ht_succ hb]⟩, sm', fun k k0 k1 => by
        rcases Nat.lt_or_ge k i with l | l
        · exact up k k0 l
        · have : k = i := by omega
          subst this
          exact h k0⟩
    refine ⟨_, rfl, _, _, rfl, rfl, _, rfl, ite2 (fun c1 => ?_) fun c1 => ?_⟩
    · have c1 : (0 : Int) < (i : Int) := of_decide_eq_true c1
      refine ⟨_, rfl, _, _, rfl, rfl, _, rfl, ite2 (fun c2 => ?_) fun c2 => ?_⟩
      · have c2 : ht ns i ≤ 0 := of_decide_eq_true c2
        exact q false _ ⟨fun z => absurd z Bool.false_ne_true, fun t => by have := t.2.2 i (by omega) hi; omega⟩ sm'
      · have c2 : ¬ ht ns i ≤ 0 := fun z => c2 (decide_eq_true z)
        exact ⟨_, rfl, _, rfl, _, _, rfl, rfl, .inl ⟨by decide, by decide⟩, _, _, rfl, rfl, _, _, rfl, rfl, go fun _ => by omega⟩
    · have c1 : ¬ (0 : Int) < (i : Int) := fun z => c1 (decide_eq_true z)
      refine iteF ?_
      exact ⟨_, rfl, _, rfl, _, _, rfl, rfl, .inl ⟨by decide, by decide⟩, _, _, rfl, rfl, _, _, rfl, rfl, go fun z => by omega⟩
  · rintro σ H' ⟨⟨k2, k3, rfl⟩, sm, up⟩
    rw [List.length_map] at up ⊢
    refine ⟨_, rfl, p, _, rfl, .inl (sm.seq hS), _, _, rfl, rfl, _, rfl, ite2 (fun c1 => ?_) fun c1 => ?_⟩
    · have c1 : (2 : Int) ≤ ((ns.map V.int).length : Int) := of_decide_eq_true c1
      rw [List.length_map] at c1
      refine ⟨_, rfl, rfl, ?_⟩
      refine q _ H' ?_ sm
      rw [decide_eq_true_iff]
      exact ⟨fun z => ⟨by omega, V.int.inj z, up⟩, fun t => congrArg V.int t.2.1⟩
    · have c1 : ¬ (2 : Int) ≤ ((ns.map V.int).length : Int) := fun z => c1 (decide_eq_true z)
      rw [List.length_map] at c1
      exact q false H' ⟨fun z => absurd z Bool.false_ne_true, fun t => by have := t.1; omega⟩ sm

structure Tab (H : Hp) (t ah : Addr) (ns : List Int) (rest : List V) : Prop where
  tup : H t = some (.tup (.int (ns.length : Int) :: .ref ah :: rest))
  ahs : H ah = some (.tup ((ahd ns (many ns.length)).map V.int))
  few : rest.length ≤ 1
theorem Tab.same {H H' : Hp} {t ah : Addr} {ns : List Int} {rest : List V} (h : Tab H t ah ns rest) (s : Same H H') : Tab H' t ah ns rest := ⟨s _ _ h.tup, s _ _ h.ahs, h.few⟩
theorem Tab.sameT {H H' : Hp} {Pt t ah : Addr} {ns : List Int} {rest : List V} (h : Tab H t ah ns rest) (s : ∀ b o, H b = some o → (∀ ps, o ≠ .tbl ps) → (∀ l, o ≠ .lst l) → H' b = some o) : Tab H' t ah ns rest := ⟨s _ _ h.tup nofun nofun, s _ _ h.ahs nofun nofun, h.few⟩
theorem tab_at0 (x y : V) : ∀ rest : List V, rest.length ≤ 1 → atI (x :: y :: rest) 0 = some x
  | [], _ => rfl
  | [_], _ => rfl
  | _ :: _ :: _, h => absurd h (by simp)
theorem tab_at1 (x y : V) : ∀ rest : List V, rest.length ≤ 1 → atI (x :: y :: rest) 1 = some y
  | [], _ => rfl
  | [_], _ => rfl
  | _ :: _ :: _, h => absurd h (by simp)
theorem ahd_at {ns : List Int} {n j : Nat} (h : j ≤ n) : atI ((ahd ns n).map V.int) (j : Int) = some (.int (ns.take (32 * j)).sum) := atI_int (ahd_get h)
def sp_kept_row (K : PySem.W.Frag) : Sp := fun vs H Q _ => ∃ (p : Addr) (ns : List Int), vs = [.ref p] ∧ SqL K H p (ns.map V.int) ∧ ns.length ≤ 4096 ∧ IsBits ns ∧
  ∀ r b t ah H', H b = none → Same H H' → H' r = some (.tup [.ref t, .ref b]) → Tab H' t ah ns [] → H' b = some (.lst ((packs ns).map V.int)) → Q (.ref r) H'
theorem ok_kept_row (T : Tx K mg a) : FnOk P w K mg base CX0 5 a.f_kept_row a.fd_kept_row ["bits"] (sp_kept_row K) := by
  refine T.D_kept_row.F.ok sc_kept_row (fun vs H Q E h => ?_) (fun cdv A outer s H vs Q E hr h => ?_)
  · obtain ⟨p, ns, rfl, _⟩ := h
    rfl
  obtain ⟨p, ns, rfl, hS, hl, hb, q⟩ := h
  refine ⟨_, (pss_cons (ps_set (i := 1) sc_kept_row.nd rfl (Or.inl rfl) (pe_cD T.D_packed (ok_packed T) (by decide) hr pass0 rfl (pa_cons (pv 0) pa_nil)))
    (pss_one (ps_ret (pe_tup (pa_cons (pe_tup (pa_cons (pe_callB call_len_seq rfl T.b_len Tw.bt_len (pa_cons (pv 0) pa_nil)) (pa_cons (pe_cD T.D_ahead_of (ok_ahead_of T) (by decide) hr pass0 rfl (pa_cons (pv 1) pa_nil)) pa_nil))) (pa_cons (pv 1) pa_nil)))))), ?_⟩
  refine ⟨_, rfl, p, ns, rfl, hS, hl, hb, fun b H1 hb0 sm1 h1 => ?_⟩
  refine ⟨_, rfl, p, _, rfl, .inl (sm1.seq hS), _, rfl, b, packs ns, rfl, SqL.of h1, ?_, fun ah H2 hah sm2 h2 => ?_⟩
  · rw [packs_length]
    unfold many
    omega
  rw [aheads_packs hb] at h2
  have ern : (ns.map V.int).length = ns.length := List.length_map ..
  rw [ern]
  refine ⟨(by show 2 ≤ sizeLine; decide), fun t ht => ⟨_, rfl, (by show 2 ≤ sizeLine; decide), fun r hr' => ?_⟩⟩
  have s3 := same_new ht (.tup [.int (ns.length : Int), .ref ah])
  have s4 := same_new hr' (.tup [.ref t, .ref b])
  exact q r b t ah _ hb0 (sm1.trans (sm2.trans (s3.trans s4))) upd_same ⟨s4 _ _ upd_same, s4 _ _ (s3 _ _ h2), by decide⟩ (s4 _ _ (s3 _ _ (sm2 _ _ h1)))

def sp_check_brackets (K : PySem.W.Frag) (C1 C2 C3 : Addr) : Sp := fun vs H Q E => ∃ (p : Addr) (ns : List Int), vs = [.ref p] ∧ SqL K H p (ns.map V.int) ∧
  ((ns.length ≤ 4096 ∧ IsBits ns ∧ Tree ns ∧ ∀ H', Same H H' → Q .non H') ∨ (4096 < ns.length ∧ E (.ref C1) none H) ∨ (ns.length ≤ 4096 ∧ ¬ IsBits ns ∧ E (.ref C2) none H) ∨ (ns.length ≤ 4096 ∧ IsBits ns ∧ ¬ Tree ns ∧ ∀ H', Same H H' → E (.ref C3) none H'))
theorem ok_check_brackets (T : Tx K mg a) : FnOk P w K mg base (CXC P w) 2 a.f_check_brackets a.fd_check_brackets ["bits"] (sp_check_brackets K a.c_TooMany a.c_NoBit a.c_NoTree) := by
  refine T.D_check_brackets.F.okC sc_check_brackets (fun vs H Q E h => ?_) (fun cdv A outer s H vs Q E hr h => ?_)
  · obtain ⟨p, ns, rfl, _⟩ := h
    rfl
  obtain ⟨p, ns, rfl, hS, h⟩ := h
  refine ⟨_, (pss_cons (ps_expr (pe_cD T.D_check_row (ok_check_row T) (by decide) hr passC rfl (pa_cons (pv 0) pa_nil)))
    (pss_one (ps_if (pt_not (pt_val (pe_cD T.D_is_tree (ok_is_tree T) (by decide) hr pass0 rfl (pa_cons (pv 0) pa_nil)))) (pss_one (ps_raiseC T.x_NoTree rfl (pa_cons pe_str pa_nil))) pss_nil))), ?_⟩
  rcases h with ⟨h1, h2, h3, q⟩ | ⟨h1, q⟩ | ⟨h1, h2, q⟩ | ⟨h1, h2, h3, q⟩
  · refine ⟨_, rfl, p, ns, rfl, hS, .inl ⟨h1, h2, ?_⟩⟩
    refine ⟨_, rfl, p, ns, rfl, hS, fun b H' hb sm => ⟨b, rfl, ?_⟩⟩
    rw [hb.mpr h3]
    exact iteF (q H' sm)
  · exact ⟨_, rfl, p, ns, rfl, hS, .inr (.inl ⟨h1, q⟩)⟩
  · exact ⟨_, rfl, p, ns, rfl, hS, .inr (.inr ⟨h1, h2, q⟩)⟩
  · refine ⟨_, rfl, p, ns, rfl, hS, .inl ⟨h1, h2, ?_⟩⟩
    refine ⟨_, rfl, p, ns, rfl, hS, fun b H' hb sm => ⟨b, rfl, ?_⟩⟩
    have : b = false := Bool.eq_false_iff.mpr fun z => h3 (hb.mp z)
    subst this
    exact iteT ⟨(by show 1 ≤ sizeLine; decide), q H' sm⟩

def sp_base_of : Sp := fun vs H Q _ => ∃ (t ah : Addr) (ns : List Int) (rest : List V) (j : Nat), vs = [.ref t, .int (j : Int)] ∧ Tab H t ah ns rest ∧ j ≤ many ns.length ∧ Q (.int (ht ns (32 * j))) H
theorem ok_base_of (T : Tx K mg a) : FnOk P w K mg base CX0 1 a.f_base_of a.fd_base_of ["tables", "number"] sp_base_of := by
  refine T.D_base_of.F.ok sc_base_of (fun vs H Q E h => ?_) (fun cdv A outer s H vs Q E hr h => ?_)
  · obtain ⟨t, ah, ns, rest, j, rfl, _⟩ := h
    rfl
  obtain ⟨t, ah, ns, rest, j, rfl, hT, hj, q⟩ := h
  refine ⟨_, (pss_one (ps_ret (pe_op op_sub (pe_op op_mul pe_int (pe_ix ix_tup (pe_ix ix_tup (pv 0) pe_int (fun _ _ => rfl)) (pv 1) (fun _ _ => rfl))) (pe_op op_mul (pe_glob (v := .int 32) rfl T.c_BLOCK_BITS ⟨_, rfl⟩) (pv 1))))), ?_⟩
  refine ⟨_, rfl, t, _, _, _, rfl, rfl, SqT.of hT.tup, tab_at1 _ _ _ hT.few, _, rfl, ah, _, _, _, rfl, rfl, SqT.of hT.ahs, ahd_at hj, _, _, rfl, rfl, .inl ⟨by decide, by decide⟩, _, rfl, _, _, rfl, rfl, .inl ⟨by decide, by decide⟩, _, _, rfl, rfl, ?_⟩
  unfold ht at q
  rw [show ((32 * j : Nat) : Int) = 32 * (j : Int) from by omega] at q
  exact q

def sp_end_within : Sp := fun vs H Q _ => ∃ (j n : Nat), vs = [.int (j : Int), .int (n : Int)] ∧ 32 * j ≤ n ∧ Q (.int (wide n j : Nat)) H
theorem ok_end_within (T : Tx K mg a) : FnOk P w K mg base CX0 1 a.f_end_within a.fd_end_within ["number", "upto"] sp_end_within := by
  refine T.D_end_within.F.ok sc_end_within (fun vs H Q E h => ?_) (fun cdv A outer s H vs Q E hr h => ?_)
  · obtain ⟨j, n, rfl, _⟩ := h
    rfl
  obtain ⟨j, n, rfl, hj, q⟩ := h
  refine ⟨_, (pss_one (ps_ret (pe_callB (call_min2 rfl) rfl T.b_min Tw.bt_min (pa_cons (pe_op op_sub (pv 1) (pe_op op_mul (pe_glob (v := .int 32) rfl T.c_BLOCK_BITS ⟨_, rfl⟩) (pv 0))) (pa_cons (pe_glob (v := .int 32) rfl T.c_BLOCK_BITS ⟨_, rfl⟩) pa_nil))))), ?_⟩
  refine ⟨_, rfl, _, rfl, _, _, rfl, rfl, .inl ⟨by decide, by decide⟩, _, _, rfl, rfl, _, _, rfl, ?_⟩
  have e : (if (32 : Int) < (n : Int) - 32 * (j : Int) then (32 : Int) else (n : Int) - 32 * (j : Int)) = ((wide n j : Nat) : Int) := by
    unfold wide
    split <;> omega
  rw [← e] at q
  exact q

def sp_low_of : Sp := fun vs H Q _ => ∃ (t ah : Addr) (ns : List Int) (rest : List V) (j : Nat), vs = [.ref t, .int (j : Int), .int (blkAt ns j)] ∧ Tab H t ah ns rest ∧ IsBits ns ∧ 32 * j < ns.length ∧ ∀ m H', LowAt ns j m → Same H H' → Q (.int m) H'
theorem ok_low_of (T : Tx K mg a) : FnOk P w K mg base CX0 5 a.f_low_of a.fd_low_of ["tables", "number", "block"] sp_low_of := by
  refine T.D_low_of.F.ok sc_low_of (fun vs H Q E h => ?_) (fun cdv A outer s H vs Q E hr h => ?_)
  · obtain ⟨t, ah, ns, rest, j, rfl, _⟩ := h
    rfl
  obtain ⟨t, ah, ns, rest, j, rfl, hT, hb, hj, q⟩ := h
  refine ⟨_, (pss_one (ps_ret (pe_op op_add (pe_cD T.D_base_of (ok_base_of T) (by decide) hr pass0 rfl (pa_cons (pv 0) (pa_cons (pv 1) pa_nil))) (pe_cD T.D_low_in (ok_low_in T) (by decide) hr pass0 rfl (pa_cons (pv 2) (pa_cons (pe_cD T.D_end_within (ok_end_within T) (by decide) hr pass0 rfl (pa_cons (pv 1) (pa_cons (pe_ix ix_tup (pv 0) pe_int (fun _ _ => rfl)) pa_nil))) pa_nil)))))), ?_⟩
  have hm : j ≤ many ns.length := by
    unfold many
    omega
  have hw : 1 ≤ wide ns.length j ∧ wide ns.length j ≤ 32 := by
    unfold wide
    omega
  refine ⟨_, rfl, _, rfl, t, ah, ns, rest, j, rfl, hT, hm, ?_⟩
  refine ⟨_, rfl, _, rfl, _, rfl, t, _, _, _, rfl, rfl, SqT.of hT.tup, tab_at0 _ _ _ hT.few, j, ns.length, rfl, by omega, ?_⟩
  refine ⟨blkAt ns j, ((wide ns.length j : Nat) : Int), rfl, by omega, by omega, fun M H' hM sm => ⟨_, _, rfl, rfl, ?_⟩⟩
  rw [Int.toNat_natCast] at hM
  exact q _ H' (LowAt.of hb hM.1 hM.2) sm

/-- the brackets of a tree, as kept -/
structure KB (H : Hp) (t ah nd bl : Addr) (ns lows : List Int) (S : Nat) (xs : List V) : Prop where
  tab : Tab H t ah ns [.ref nd]
  nds : H nd = some (.tup xs)
  bls : H bl = some (.lst ((packs ns).map V.int))
  low : Lows ns lows
  sz : IsSz lows.length S
  heap : HInv lows S 1 xs
def sp_kept_brackets (K : PySem.W.Frag) : Sp := fun vs H Q _ => ∃ (p : Addr) (ns : List Int), vs = [.ref p] ∧ SqL K H p (ns.map V.int) ∧ ns.length ≤ 4096 ∧ IsBits ns ∧ Tree ns ∧
  ∀ r t ah nd bl lows S xs H', H bl = none → H r = none → H t = none → Same H H' → H' r = some (.tup [.ref t, .ref bl]) → KB H' t ah nd bl ns lows S xs → Q (.ref r) H'
theorem ok_kept_brackets (T : Tx K mg a) : FnOk P w K mg base CX0 6 a.f_kept_brackets a.fd_kept_brackets ["bits"] (sp_kept_brackets K) := by
  refine T.D_kept_brackets.F.ok sc_kept_brackets (fun vs H Q E h => ?_) (fun cdv A outer s H vs Q E hr h => ?_)
  · obtain ⟨p, ns, rfl, _⟩ := h
    rfl
  obtain ⟨p, ns, rfl, hS, hl, hb, ht, q⟩ := h
  refine ⟨_, (pss_cons (ps_expr (pe_cD T.D_check_brackets (ok_check_brackets T) (by decide) hr passNC rfl (pa_cons (pv 0) pa_nil)))
    (pss_cons (ps_set (i := 1) sc_kept_brackets.nd rfl (Or.inl rfl) (pe_cD T.D_kept_row (ok_kept_row T) (by decide) hr pass0 rfl (pa_cons (pv 0) pa_nil)))
    (pss_cons (ps_set (i := 2) sc_kept_brackets.nd rfl (Or.inr rfl) (pe_ix ix_tup (pv 1) pe_int (fun _ _ => rfl)))
    (pss_cons (ps_set (i := 3) sc_kept_brackets.nd rfl (Or.inl rfl) (pe_ix ix_tup (pv 1) pe_int (fun _ _ => rfl)))
    (pss_cons (ps_setComp2 (i := 4) sc_kept_brackets.nd rfl rfl rfl ⟨(CompOk.one (j := 2) rfl (Or.inl rfl) rfl rfl (Or.inl rfl)), rfl, by decide⟩ (pi_enum rfl T.b_enumerate (pa_cons (pv 3) pa_nil)) (fun _ _ _ _ => (pe_cD T.D_low_of (ok_low_of T) (by decide) hr pass0 rfl (pa_cons (pv 2) (pa_cons (pv 0) (pa_cons (pv 1) pa_nil))))))
    (pss_one (ps_ret (pe_tup (pa_cons (pe_tup (pa_cons (pe_ix ix_tup (pv 2) pe_int (fun _ _ => rfl)) (pa_cons (pe_ix ix_tup (pv 2) pe_int (fun _ _ => rfl)) (pa_cons (pe_callTy call_tuple_of rfl T.b_tuple Tw.bt_tuple (pa_cons (pe_cD T.D_heap_of (ok_heap_of T) (by decide) hr pass0 rfl (pa_cons (pv 4) pa_nil)) pa_nil)) pa_nil)))) (pa_cons (pv 3) pa_nil)))))))))), ?_⟩
  refine ⟨_, rfl, p, ns, rfl, hS, .inl ⟨hl, hb, ht, fun H1 s1 => ?_⟩⟩
  refine ⟨_, rfl, p, ns, rfl, s1.seq hS, hl, hb, fun r b t ah H2 hb0 s2 xr hT xb => ?_⟩
  refine ⟨_, rfl, r, _, _, _, rfl, rfl, SqT.of xr, rfl, ?_⟩
  refine ⟨_, rfl, r, _, _, _, rfl, rfl, SqT.of xr, rfl, ?_⟩
  have hpl := packs_length ns
  have hml : many ns.length ≤ 128 := by
    unfold many
    omega
  refine ⟨_, rfl, b, _, rfl, SqL.of xb, ?_⟩
  refine comp_enumS (LowAt ns) (SqL.of xb) (by rw [hpl, sizeLine_eq]; omega) (fun i c H' Q hc sm qq => ?_) fun D H3 ls hD s3 xD hlen hR => ?_
  · have hi := (List.getElem?_eq_some_iff.mp hc).1
    rw [hpl] at hi
    rw [packs_get hi] at hc
    cases hc
    refine ⟨_, rfl, _, rfl, _, rfl, t, ah, ns, [], i, rfl, hT.same sm, hb, ?_, qq⟩
    unfold many at hi
    omega
  have hLo : Lows ns ls := ⟨by rw [hlen, hpl], hR⟩
  refine ⟨_, rfl, t, _, _, _, rfl, rfl, SqT.of (s3 _ _ hT.tup), rfl, ?_⟩
  refine ⟨_, rfl, t, _, _, _, rfl, rfl, SqT.of (s3 _ _ hT.tup), rfl, ?_⟩
  refine ⟨_, rfl, D, ls, rfl, SqL.of xD, by omega, fun S r4 H4 xs hSz hr4 s4 x4 hv => ?_⟩
  refine ⟨r4, _, rfl, .inl ⟨SqL.of x4, fun nd hnd => ?_⟩⟩
  have s5 := same_new hnd (.tup xs)
  refine ⟨(by show 3 ≤ sizeLine; decide), fun t6 ht6 => ?_⟩
  have s6 := same_new ht6 (.tup [.int (ns.length : Int), .ref ah, .ref nd])
  refine ⟨_, rfl, (by show 2 ≤ sizeLine; decide), fun r7 hr7 => ?_⟩
  have s7 := same_new hr7 (.tup [.ref t6, .ref b])
  have sA := s3.trans (s4.trans (s5.trans (s6.trans s7)))
  refine q r7 t6 ah nd b ls S xs _ (s1.free hb0) ((s1.trans (s2.trans (s3.trans (s4.trans (s5.trans s6))))).free hr7) ((s1.trans (s2.trans (s3.trans (s4.trans s5)))).free ht6) (s1.trans (s2.trans sA)) upd_same ⟨⟨s7 _ _ upd_same, sA _ _ hT.ahs, Nat.le_refl _⟩, s7 _ _ (s6 _ _ upd_same), sA _ _ xb, hLo, hSz, hv⟩

def sp_check_depths : Sp := fun vs H Q _ => ∃ (p : Addr) (ds : List Int), vs = [.ref p] ∧ H p = some (.lst (ds.map V.int)) ∧ GoodD ds ∧ ds.length ≤ 2048 ∧ ∀ H', Same H H' → Q .non H'
theorem ok_check_depths (T : Tx K mg a) : FnOk P w K mg base CX0 1 a.f_check_depths a.fd_check_depths ["depths"] sp_check_depths := by
  refine T.D_check_depths.F.ok sc_check_depths (fun vs H Q E h => ?_) (fun cdv A outer s H vs Q E hr h => ?_)
  · obtain ⟨p, ds, rfl, _⟩ := h
    rfl
  obtain ⟨p, ds, rfl, hp, hg, hl, q⟩ := h
  refine ⟨_, (pss_cons (ps_if (pt_cmpR op_gt (pe_callB call_len_seq rfl T.b_len Tw.bt_len (pa_cons (pv 0) pa_nil)) (pe_glob (v := .int 2048) rfl T.c_MOST_NODES ⟨_, rfl⟩) (nomark _)) (pss_one ps_never) pss_nil)
    (pss_cons (ps_if (PW.pt (pw_or (pt_cmpR op_eq (pe_callB call_len_seq rfl T.b_len Tw.bt_len (pa_cons (pv 0) pa_nil)) pe_int (nomark _)) (pw_or1 (pt_cmpR op_ne (pe_ix ix_list (pv 0) pe_int (fun _ _ => rfl)) pe_int (nomark _))))) (pss_one ps_never) pss_nil)
    (pss_one (ps_for PassesOwn.never rfl (pi_zip rfl T.b_zip Tw.bt_zip (pa_cons (pv 0) (pa_cons (pe_slice sl_list (pv 0) (po_some pe_int) po_none) pa_nil))) (pg_tup rfl (pgs_cons (pg_name (i := 1) sc_check_depths.nd rfl (Or.inl rfl)) (pgs_cons (pg_name (i := 2) sc_check_depths.nd rfl (Or.inl rfl)) pgs_nil))) (pss_one (ps_if (pt_not (pt_chain op_le op_le pe_int (pv 2) (pe_op op_add (pv 1) pe_int))) (pss_one ps_never) pss_nil)))))), ?_⟩
  have ern : (ds.map V.int).length = ds.length := List.length_map ..
  have h0 : 0 < ds.length := (List.getElem?_eq_some_iff.mp hg.1).1
  refine ⟨_, rfl, p, _, rfl, .inl (SqL.of hp), _, _, rfl, rfl, _, rfl, ite2 (fun c => ?_) fun c => ?_⟩
  · have c : (2048 : Int) < ((ds.map V.int).length : Int) := of_decide_eq_true c
    rw [ern] at c
    omega
  refine ⟨_, rfl, p, _, rfl, .inl (SqL.of hp), rfl, _, rfl, ite2 (fun c => ?_) fun c => ?_⟩
  · have c : V.int ((ds.map V.int).length : Int) = V.int 0 := of_decide_eq_true c
    injection c with c
    rw [ern] at c
    omega
  refine ⟨_, rfl, p, _, _, _, rfl, rfl, SqL.of hp, atI_int (i := 0) hg.1, rfl, _, rfl, iteNS rfl ?_⟩
  refine ⟨_, rfl, _, rfl, _, rfl, p, _, rfl, SqL.of hp, fun c hc => ?_⟩
  have s1 := same_new hc (.lst (cutV (ds.map V.int) (some 1) none))
  have ec : cutV (ds.map V.int) (some 1) none = (ds.drop 1).map V.int := cut_from ds 1
  have xc : upd H c (.lst (cutV (ds.map V.int) (some 1) none)) c = some (.lst ((ds.drop 1).map V.int)) := by rw [upd_same, ec]
  generalize upd H c (.lst (cutV (ds.map V.int) (some 1) none)) = H1 at *
  refine ⟨p, c, _, _, rfl, SqL.of (s1 _ _ hp), SqL.of xc, ?_⟩
  refine for_zip (xs := ds.map V.int) (ys := (ds.drop 1).map V.int) (fun i σ H' => (∃ k1 k2, σ = [some (.ref p), k1, k2]) ∧ Same H1 H') ⟨⟨none, none, rfl⟩, Same.refl _⟩ ?_ ?_ ?_
  · rintro i σ H' _ ⟨_, sm⟩
    exact ⟨SqL.of (sm _ _ (s1 _ _ hp)), SqL.of (sm _ _ xc)⟩
  · rintro i x y σ H' t hx hy ⟨⟨k1, k2, rfl⟩, sm⟩ ht
    obtain ⟨u, hu, rfl⟩ := int_at hx
    obtain ⟨v, hv, rfl⟩ := int_at hy
    rw [List.getElem?_drop, Nat.add_comm] at hv
    have hh := hg.2 i u v hu hv
    have s2 := same_new ht (.tup [.int u, .int v])
    refine ⟨t, _, rfl, SqT.of upd_same, rfl, _, _, rfl, _, _, rfl, rfl, ?_⟩
    exact ⟨_, rfl, _, _, rfl, rfl, _, rfl, ite2 (fun _ => ⟨_, rfl, _, _, rfl, rfl, _, _, rfl, rfl, _, rfl, iteNS hh.2 ⟨⟨_, _, rfl⟩, sm.trans s2⟩⟩) fun z => absurd (decide_eq_true hh.1) z⟩
  · rintro σ H' ⟨_, sm⟩
    exact q H' (s1.trans sm)

def sp_brackets_of : Sp := fun vs H Q _ => ∃ (p : Addr) (ds : List Int), vs = [.ref p] ∧ H p = some (.lst (ds.map V.int)) ∧ GoodD ds ∧ ds.length ≤ 2048 ∧ ∀ r H', H r = none → Same H H' → H' r = some (.lst ((brk ds 0).map V.int)) → Q (.ref r) H'
theorem ok_brackets_of (T : Tx K mg a) : FnOk P w K mg base CX0 2 a.f_brackets_of a.fd_brackets_of ["depths"] sp_brackets_of := by
  refine T.D_brackets_of.F.ok sc_brackets_of (fun vs H Q E h => ?_) (fun cdv A outer s H vs Q E hr h => ?_)
  · obtain ⟨p, ds, rfl, _⟩ := h
    rfl
  obtain ⟨p, ds, rfl, hp, hg, hl, q⟩ := h
  refine ⟨_, (pss_cons (ps_expr (pe_cD T.D_check_depths (ok_check_depths T) (by decide) hr pass0 rfl (pa_cons (pv 0) pa_nil)))
    (pss_cons (ps_set (i := 1) sc_brackets_of.nd rfl (Or.inl rfl) (pe_lst pa_nil))
    (pss_cons (ps_set (i := 2) sc_brackets_of.nd rfl (Or.inl rfl) pe_int)
    (pss_cons (ps_for PassesOwn.never rfl (pi_list (pv 0)) (pg_name (i := 3) sc_brackets_of.nd rfl (Or.inl rfl)) (pss_cons (ps_expr (pe_bm PySem.F.plainAttrs_list PySem.F.slot_list_extend PySem.F.type_list_extend mt_extend (pv 1) (pa_cons (pe_op op_rep (pe_lst (pa_cons pe_int pa_nil)) (pe_op op_sub (pv 2) (pv 3))) pa_nil)))
    (pss_cons (ps_expr (pe_bm PySem.F.plainAttrs_list PySem.F.slot_list_append PySem.F.type_list_append mt_append (pv 1) (pa_cons pe_int pa_nil)))
    (pss_one (ps_set (i := 2) sc_brackets_of.nd rfl (Or.inl rfl) (pe_op op_add (pv 3) pe_int))))))
    (pss_one (ps_ret (pe_op op_cat (pv 1) (pe_op op_rep (pe_lst (pa_cons pe_int pa_nil)) (pv 2))))))))), ?_⟩
  have hbl := brk_length hg.dp
  refine ⟨_, rfl, p, ds, rfl, hp, hg, hl, fun H1 s1 => ?_⟩
  refine ⟨(by show 0 ≤ sizeLine; decide), fun b hb => ?_⟩
  have s2 := s1.trans (same_new hb (.lst []))
  have xb : upd H1 b (.lst []) b = some (.lst (([] : List Int).map V.int)) := upd_same
  have hbH : H b = none := s1.free hb
  generalize upd H1 b (.lst []) = H2 at *
  refine ⟨_, rfl, p, rfl, ⟨_, SqL.of (s2 _ _ hp)⟩, ?_⟩
  refine for_list (xs := ds.map V.int) (fun i σ H' => (∃ (u : Int) (k3 : Option V) (bs : List Int), σ = [some (.ref p), some (.ref b), some (.int u), k3] ∧ H' b = some (.lst (bs.map V.int)) ∧ bs ++ brk (ds.drop i) u = brk ds 0 ∧ Dp (ds.drop i) u) ∧ Same H H') ⟨⟨0, none, [], rfl, xb, rfl, hg.dp⟩, s2⟩ ?_ ?_ ?_
  · rintro i σ H' _ ⟨_, sm⟩
    exact SqL.of (sm _ _ hp)
  · rintro i x σ H' hx ⟨⟨u, k3, bs, rfl, xb', eb, hd⟩, sm⟩
    obtain ⟨d, hdi, rfl⟩ := int_at hx
    have hi := (List.getElem?_eq_some_iff.mp hdi).1
    have edr : ds.drop i = d :: ds.drop (i + 1) := by
      rw [List.drop_eq_getElem_cons hi]
      congr 1
      exact (List.getElem?_eq_some_iff.mp hdi).2
    rw [edr] at eb hd
    obtain ⟨d0, du, hd'⟩ := hd
    have hlen := congrArg List.length eb
    simp only [brk, List.length_append, List.length_replicate, List.length_cons] at hlen
    rw [hbl] at hlen
    have hu : u - d ≤ 4096 := by omega
    have ub : bs.length ≤ 4096 := by omega
    refine ⟨_, rfl, .inl ⟨rfl, _, SqL.of xb'⟩, ?_⟩
    refine ⟨(by show 1 ≤ sizeLine; decide), fun l1 h1 => ⟨_, rfl, _, rfl, _, _, rfl, rfl, l1, u - d, [.int 0], rfl, rfl, upd_same, by omega, by omega, ?_, fun r1 hr1 => ?_⟩⟩
    · rw [sizeLine_eq]
      show 1 * _ ≤ _
      omega
    have s3 := (same_new h1 (.lst [.int 0])).trans (same_new hr1 (.lst (List.replicate (u - d).toNat [.int 0]).flatten))
    have x3 : upd (upd H' l1 (.lst [.int 0])) r1 (.lst (List.replicate (u - d).toNat [.int 0]).flatten) r1 = some (.lst ((List.replicate (u - d).toNat (0 : Int)).map V.int)) := by
      rw [upd_same, rep_one]
    have xb3 := s3 _ _ xb'
    have sm3 := sm.trans s3
    generalize upd (upd H' l1 (.lst [.int 0])) r1 (.lst (List.replicate (u - d).toNat [.int 0]).flatten) = H3 at *
    refine ⟨b, r1, _, _, rfl, rfl, xb3, x3, ?_, ?_⟩
    · rw [List.length_map, List.length_map, List.length_replicate, sizeLine_eq]
      omega
    have x4 : upd H3 b (.lst (bs.map V.int ++ (List.replicate (u - d).toNat (0 : Int)).map V.int)) b = some (.lst ((bs ++ List.replicate (u - d).toNat 0).map V.int)) := by
      rw [upd_same, List.map_append]
    have sm4 := same_set sm3 hbH (.lst (bs.map V.int ++ (List.replicate (u - d).toNat (0 : Int)).map V.int))
    generalize upd H3 b (.lst (bs.map V.int ++ (List.replicate (u - d).toNat (0 : Int)).map V.int)) = H4 at *
    refine ⟨_, rfl, .inl ⟨rfl, _, SqL.of x4⟩, b, _, _, rfl, rfl, x4, ?_, ?_⟩
    · rw [List.length_map, List.length_append, List.length_replicate, sizeLine_eq]
      omega
    refine ⟨_, rfl, _, _, rfl, rfl, ⟨d + 1, _, bs ++ List.replicate (u - d).toNat 0 ++ [1], rfl, ?_, ?_, hd'⟩, same_set sm4 hbH _⟩
    · rw [upd_same, List.map_append (l₂ := [1])]
      rfl
    · rw [← eb]
      simp [brk]
  · rintro σ H' ⟨⟨u, k3, bs, rfl, xb', eb, hd⟩, sm⟩
    rw [List.length_map, List.drop_length] at eb hd
    have hu : 0 ≤ u := hd
    have hlen := congrArg List.length eb
    simp only [brk, List.length_append, List.length_replicate] at hlen
    rw [hbl] at hlen
    refine ⟨_, rfl, ?_⟩
    refine rep_way (i := 2) (k := u) (xs := [.int 0]) (fun Q' q => q) rfl (by omega) (by decide) (by omega) fun p1 H4 hp1 s4 x4 => ?_
    rw [rep_one] at x4
    refine ⟨b, p1, _, _, rfl, rfl, s4 _ _ xb', x4, ?_, fun p2 hp2 => ?_⟩
    · rw [List.length_map, List.length_map, List.length_replicate, sizeLine_eq]
      omega
    refine q p2 _ ((sm.trans s4).free hp2) (sm.trans (s4.trans (same_new hp2 _))) ?_
    rw [upd_same, ← List.map_append]
    exact congrArg (fun l : List Int => some (HO.lst (l.map V.int))) eb

/-- a look that tells -/
def sp_look1 : Addr → Sp := fun f vs H Q _ => ∃ (bl : Addr) (xs : List V) (n : Nat) (x : V) (cs : List Addr), vs = [.int (n : Int)] ∧ CloAt H f T_look cs [.ref bl] ∧ H bl = some (.lst xs) ∧ xs[n]? = some x ∧ Q x H
theorem ok_look (_ : Tx K mg a) : CloOk P w K mg base 1 sp_look1 := by
  refine clo_ok sc_look (fun _ _ _ _ _ us hl => match us, hl with | [_], _ => rfl) fun f vs H Q h => ?_
  obtain ⟨bl, xs, n, x, cs, rfl, ca, hb, hat, q⟩ := h
  refine ⟨rfl, cs, [.ref bl], ca, fun cd A outer s hr => ⟨_, (pss_one (ps_ret (pe_ix ix_list (pv 1) (pv 0) (fun _ _ => rfl)))), ?_⟩⟩
  refine ⟨_, rfl, _, rfl, bl, _, _, _, rfl, rfl, SqL.of (by rw [hide_out (CloAt.out ca hb)]; exact hb), atI_V hat, ?_⟩
  show Q x (over H cs (hide H cs))
  rw [over_hide]
  exact q
def sp_look_of (K : PySem.W.Frag) (Pt : Addr) : Sp := fun vs H Q _ => ∃ (p : Addr) (xs : List V), vs = [.ref p] ∧ SqL K H p xs ∧ TabAt H Pt (posOf i_look_of) T_look.qual ∧
  ∀ f r H2 cs, H f = none → H r = none → SameT Pt H H2 → TabAt H2 Pt (posOf i_look_of) T_look.qual → CloAt H2 f T_look cs [.ref r] → H2 r = some (.lst xs) → Q (.ref f) H2
theorem ok_look_of (T : Tx K mg a) (B : Bs mg base a) : FnOk P w K mg base CX0 1 a.f_look_of a.fd_look_of ["blocks"] (sp_look_of K a.tP_look_of) := by
  refine Fun.maker1 (T := T_look) (pos := posOf i_look_of) T.D_look_of.F sc_look_of mk_look_of B.bm T.w_look_of B.C_look_of (fun vs H Q E h => ?_) rfl (fun cdv A outer s H vs Q E hr h => ?_)
  · obtain ⟨p, xs, rfl, _⟩ := h
    rfl
  obtain ⟨p, xs, rfl, hS, hT, q⟩ := h
  refine ⟨_, (ps_set (i := 1) sc_look_of.nd rfl (Or.inr rfl) (pe_callTy call_list_of rfl T.b_list Tw.bt_list (pa_cons (pv 0) pa_nil))), ?_⟩
  refine ⟨_, rfl, p, _, rfl, .inl hS, fun r hr' => ?_⟩
  have sm := same_new hr' (.lst xs)
  have nP : r ≠ a.tP_look_of := fun z => by
    obtain ⟨ps, h1, _⟩ := hT
    rw [← z, hr'] at h1
    cases h1
  refine ⟨TabAt.same hT sm, [.ref r], fun j m e => ?_, rfl, fun fi cs H2 n1 n2 n3 n4 n5 => q fi r H2 cs (sm.free n1) hr' (fun b o e n => n3 b o (sm _ _ e) n) n4 n5 (n3 _ _ upd_same nP)⟩
  match j, e with
  | 0, e => cases e; exact ⟨_, rfl, rfl⟩
  | j + 1, e => simp at e
def sp_kept_tree : Sp := fun vs H Q E => ∃ (p : Addr) (ds : List Int), vs = [.ref p] ∧ H p = some (.lst (ds.map V.int)) ∧ ds.length ≤ 2048 ∧ GoodD ds ∧ ∀ r t ah nd bl lows S xs H', H bl = none → Same H H' → H' r = some (.tup [.ref t, .ref bl]) → KB H' t ah nd bl (brk ds 0) lows S xs → Q (.ref r) H'
theorem ok_kept_tree (T : Tx K mg a) : FnOk P w K mg base CX0 7 a.f_kept_tree a.fd_kept_tree ["depths"] sp_kept_tree := by
  refine T.D_kept_tree.F.ok sc_kept_tree (fun vs H Q E h => ?_) (fun cdv A outer s H vs Q E hr h => ?_)
  · obtain ⟨p, ds, rfl, _⟩ := h
    rfl
  obtain ⟨p, ds, rfl, hp, hl, hg, q⟩ := h
  refine ⟨_, (pss_one (ps_ret (pe_cD T.D_kept_brackets (ok_kept_brackets T) (by decide) hr pass0 rfl (pa_cons (pe_cD T.D_brackets_of (ok_brackets_of T) (by decide) hr pass0 rfl (pa_cons (pv 0) pa_nil)) pa_nil)))), ?_⟩
  refine ⟨_, rfl, p, ds, rfl, hp, hg, hl, fun b H1 hb s1 xb => ?_⟩
  have hbl := brk_len hg
  exact ⟨b, brk ds 0, rfl, SqL.of xb, by omega, isBits_brk _ _, brk_tree hg, fun r t ah nd bl lows S xs H2 h1 h2 h3 s2 xr kb => q r t ah nd bl lows S xs H2 (s1.free h1) (s1.trans s2) xr kb⟩

def sp_unpacked (K : PySem.W.Frag) : Sp := fun vs H Q _ => ∃ (p : Addr) (bs : List Int) (m : Nat), vs = [.ref p, .int (m : Int)] ∧ SqL K H p (bs.map V.int) ∧ m ≤ 32 * bs.length ∧ bs.length ≤ 512 ∧
  ∀ r H', H r = none → Same H H' → H' r = some (.lst (((unp bs).take m).map V.int)) → Q (.ref r) H'
theorem ok_unpacked (T : Tx K mg a) : FnOk P w K mg base CX0 3 a.f_unpacked a.fd_unpacked ["blocks", "many"] (sp_unpacked K) := by
  refine T.D_unpacked.F.ok sc_unpacked (fun vs H Q E h => ?_) (fun cdv A outer s H vs Q E hr h => ?_)
  · obtain ⟨p, ns, m, rfl, _⟩ := h
    rfl
  obtain ⟨p, bs, m, rfl, hS, hm, hl, q⟩ := h
  refine ⟨_, (pss_cons (ps_if (PW.pt (pw_or (pt_cmpR op_lt (pv 1) pe_int (nomark _)) (pw_or1 (pt_cmpR op_gt (pv 1) (pe_op op_mul (pe_glob (v := .int 32) rfl T.c_BLOCK_BITS ⟨_, rfl⟩) (pe_callB call_len_seq rfl T.b_len Tw.bt_len (pa_cons (pv 0) pa_nil))) (nomark _))))) (pss_one ps_never) pss_nil)
    (pss_cons (ps_set (i := 2) sc_unpacked.nd rfl (Or.inl rfl) (pe_lst pa_nil))
    (pss_cons (ps_for PassesOwn.never rfl (pi_list (pv 0)) (pg_name (i := 3) sc_unpacked.nd rfl (Or.inl rfl)) (pss_one (ps_expr (pe_bm PySem.F.plainAttrs_list PySem.F.slot_list_extend PySem.F.type_list_extend mt_extend (pv 2) (pa_cons (pe_cD T.D_bits_of (ok_bits_of T) (by decide) hr pass0 rfl (pa_cons (pv 3) (pa_cons (pe_glob (v := .int 32) rfl T.c_BLOCK_BITS ⟨_, rfl⟩) pa_nil))) pa_nil)))))
    (pss_one (ps_ret (pe_slice sl_list (pv 2) po_none (po_some (pv 1)))))))), ?_⟩
  refine ⟨_, rfl, _, _, rfl, rfl, _, rfl, ite2 (fun c => ?_) fun _ => ?_⟩
  · have c := of_decide_eq_true c
    omega
  refine ⟨_, rfl, _, rfl, p, _, rfl, .inl hS, _, _, rfl, rfl, .inl ⟨by decide, by decide⟩, _, _, rfl, rfl, _, rfl, ite2 (fun c => ?_) fun _ => ?_⟩
  · have c := of_decide_eq_true c
    rw [List.length_map] at c
    omega
  refine ⟨(by show 0 ≤ sizeLine; decide), fun r hr' => ?_⟩
  have nr : ∀ {x : Addr} {u : HO}, H x = some u → x ≠ r := fun h => ne_of_none h hr'
  refine ⟨_, rfl, p, rfl, ⟨_, (same_new hr' _).seq hS⟩, ?_⟩
  refine for_list (xs := bs.map V.int) (fun i σ H' => (∃ k, σ = [some (.ref p), some (.int (m : Int)), some (.ref r), k]) ∧ Same H H' ∧ H' r = some (.lst ((unp (bs.take i)).map V.int))) ?_ ?_ ?_ ?_
  · exact ⟨⟨none, rfl⟩, same_new hr' _, upd_same⟩
  · rintro i σ H' _ ⟨_, sm, _⟩
    exact sm.seq hS
  · rintro i x σ H' hx ⟨⟨k, rfl⟩, sm, hr1⟩
    obtain ⟨c, hc, rfl⟩ := int_at hx
    have hi := (List.getElem?_eq_some_iff.mp hc).1
    refine ⟨_, rfl, .inl ⟨rfl, _, SqL.of hr1⟩, _, rfl, c, 32, rfl, by decide, by decide, fun p2 hp2 => ?_⟩
    have ne : r ≠ p2 := ne_of_none hr1 hp2
    refine ⟨r, p2, _, _, rfl, rfl, by rw [upd_ne ne]; exact hr1, upd_same, ?_, ⟨_, rfl⟩, same_set (sm.trans (same_new hp2 _)) hr' _, ?_⟩
    · rw [List.length_map, List.length_map, unp_length, List.length_take]
      show 32 * min i bs.length + (bits c 32).length ≤ sizeLine
      rw [bits_length, sizeLine_eq]
      omega
    · rw [upd_same, List.take_add_one, hc]
      show _ = some (HO.lst ((unp (bs.take i ++ [c])).map V.int))
      rw [unp_snoc, List.map_append]
      rfl
  · rintro σ H' ⟨⟨k, rfl⟩, sm, hr1⟩
    rw [List.length_map, List.take_length] at hr1
    refine ⟨_, rfl, _, rfl, _, rfl, r, _, rfl, SqL.of hr1, fun r2 hr2 => ?_⟩
    rw [cut_to]
    exact q r2 _ (sm.free hr2) (sm.trans (same_new hr2 _)) upd_same

/-- the heights of the opening brackets among the first n bits -/
def dps (ns : List Int) (n : Nat) : List Int := ((List.range n).filter fun i => decide ((ns[i]?).getD 0 = 1)).map (ht ns)
theorem dps_succ (ns : List Int) (n : Nat) : dps ns (n + 1) = dps ns n ++ (if (ns[n]?).getD 0 = 1 then [ht ns n] else []) := by
  unfold dps
  rw [List.range_succ, List.filter_append, List.map_append]
  by_cases c : (ns[n]?).getD 0 = 1 <;> simp [c]
theorem dps_length (ns : List Int) (n : Nat) : (dps ns n).length ≤ n := by
  unfold dps
  rw [List.length_map]
  refine Nat.le_trans (List.length_filter_le _ _) ?_
  rw [List.length_range]
  exact Nat.le_refl _
def sp_depths_of (K : PySem.W.Frag) (C1 C2 C3 : Addr) : Sp := fun vs H Q E => ∃ (p : Addr) (ns : List Int), vs = [.ref p] ∧ SqL K H p (ns.map V.int) ∧
  ((ns.length ≤ 4096 ∧ IsBits ns ∧ Tree ns ∧ ∀ r H', H r = none → Same H H' → H' r = some (.lst ((dps ns ns.length).map V.int)) → Q (.ref r) H') ∨ (4096 < ns.length ∧ E (.ref C1) none H) ∨ (ns.length ≤ 4096 ∧ ¬ IsBits ns ∧ E (.ref C2) none H) ∨ (ns.length ≤ 4096 ∧ IsBits ns ∧ ¬ Tree ns ∧ ∀ H', Same H H' → E (.ref C3) none H'))
theorem ok_depths_of (T : Tx K mg a) : FnOk P w K mg base (CXC P w) 3 a.f_depths_of a.fd_depths_of ["bits"] (sp_depths_of K a.c_TooMany a.c_NoBit a.c_NoTree) := by
  refine T.D_depths_of.F.okC sc_depths_of (fun vs H Q E h => ?_) (fun cdv A outer s H vs Q E hr h => ?_)
  · obtain ⟨p, ns, rfl, _⟩ := h
    rfl
  obtain ⟨p, ns, rfl, hS, h⟩ := h
  refine ⟨_, (pss_cons (ps_expr (pe_cD T.D_check_brackets (ok_check_brackets T) (by decide) hr passC rfl (pa_cons (pv 0) pa_nil)))
    (pss_cons (ps_set (i := 1) sc_depths_of.nd rfl (Or.inl rfl) (pe_lst pa_nil))
    (pss_cons (ps_set (i := 2) sc_depths_of.nd rfl (Or.inl rfl) pe_int)
    (pss_cons (ps_for passOwnC rfl (pi_list (pv 0)) (pg_name (i := 3) sc_depths_of.nd rfl (Or.inl rfl)) (pss_cons (ps_if (pt_cmpR op_eq (pv 3) pe_int (nomark _)) (pss_one (ps_expr (pe_bm PySem.F.plainAttrs_list PySem.F.slot_list_append PySem.F.type_list_append mt_append (pv 1) (pa_cons (pv 2) pa_nil)))) pss_nil)
    (pss_one (ps_set (i := 2) sc_depths_of.nd rfl (Or.inl rfl) (pe_op op_sub (pe_op op_add (pv 2) (pe_op op_mul pe_int (pv 3))) pe_int)))))
    (pss_one (ps_ret (pv 1))))))), ?_⟩
  rcases h with ⟨h1, h2, h3, q⟩ | ⟨h1, q⟩ | ⟨h1, h2, q⟩ | ⟨h1, h2, h3, q⟩
  rotate_left
  · exact ⟨_, rfl, p, ns, rfl, hS, .inr (.inl ⟨h1, q⟩)⟩
  · exact ⟨_, rfl, p, ns, rfl, hS, .inr (.inr (.inl ⟨h1, h2, q⟩))⟩
  · exact ⟨_, rfl, p, ns, rfl, hS, .inr (.inr (.inr ⟨h1, h2, h3, q⟩))⟩
  refine ⟨_, rfl, p, ns, rfl, hS, .inl ⟨h1, h2, h3, fun H1 sm1 => ?_⟩⟩
  refine ⟨(by show 0 ≤ sizeLine; decide), fun r hr' => ?_⟩
  have hr0 := sm1.free hr'
  have sm2 := sm1.trans (same_new hr' (.lst []))
  refine ⟨_, rfl, p, rfl, ⟨_, sm2.seq hS⟩, ?_⟩
  refine for_list (xs := ns.map V.int) (fun i σ H' => (∃ k3, σ = [some (.ref p), some (.ref r), some (.int (ht ns i)), k3]) ∧ Same H H' ∧ H' r = some (.lst ((dps ns i).map V.int))) ⟨⟨none, by rw [ht_zero]; rfl⟩, sm2, upd_same⟩ ?_ ?_ ?_
  · rintro i σ H' _ ⟨_, sm, _⟩
    exact sm.seq hS
  · rintro i x σ H' hx ⟨⟨k3, rfl⟩, sm, hr1⟩
    obtain ⟨b, hb, rfl⟩ := int_at hx
    have hi := (List.getElem?_eq_some_iff.mp hb).1
    refine ⟨_, rfl, rfl, _, rfl, ?_⟩
    refine st_wayN (fun σ H2 => σ = [some (.ref p), some (.ref r), some (.int (ht ns i)), some (.int b)] ∧ Same H H2 ∧ H2 r = some (.lst ((dps ns (i + 1)).map V.int))) (fun d => ⟨rfl, sm, ?_⟩) ?_ (fun d m => ?_)
    · have d : ¬ b = 1 := fun z => d (decide_eq_true (congrArg V.int z))
      rw [dps_succ, hb, Option.getD_some, if_neg d, List.append_nil]
      exact hr1
    rotate_left
    · have d : V.int b = V.int 1 := of_decide_eq_true d
      injection d with d
      refine ⟨_, rfl, .inl ⟨rfl, _, SqL.of hr1⟩, _, rfl, r, _, _, rfl, rfl, hr1, ?_, m _ _ ⟨rfl, same_set sm hr0 _, ?_⟩⟩
      · have := dps_length ns i
        rw [List.length_map, sizeLine_eq]
        omega
      · rw [upd_same, dps_succ, hb, Option.getD_some, if_pos d, List.map_append]
        rfl
    rintro σ2 H2 ⟨rfl, sm2, hr2⟩
    exact ⟨_, rfl, _, rfl, _, _, rfl, rfl, .inl ⟨by decide, by decide⟩, _, _, rfl, rfl, _, _, rfl, rfl, ⟨_, by rw [ht_succ hb]; rfl⟩, sm2, hr2⟩
  · rintro σ H' ⟨⟨k3, rfl⟩, sm, hr1⟩
    rw [List.length_map] at hr1
    exact ⟨_, rfl, q r H' hr0 sm hr1⟩

def sp_octets_of : Sp := fun vs H Q _ => ∃ (b n : Int), vs = [.int b, .int n] ∧ 0 ≤ n ∧ n ≤ 100 ∧ ∀ r, H r = none → Q (.ref r) (upd H r (.lst ((octs b n.toNat).map V.int)))
theorem ok_octets_of (T : Tx K mg a) : FnOk P w K mg base CX0 1 a.f_octets_of a.fd_octets_of ["number", "many"] sp_octets_of := by
  refine T.D_octets_of.F.ok sc_octets_of (fun vs H Q E h => ?_) (fun cdv A outer s H vs Q E hr h => ?_)
  · obtain ⟨b, n, rfl, _⟩ := h
    rfl
  obtain ⟨b, n, rfl, h0, h1, q⟩ := h
  refine ⟨_, (pss_cons (ps_set (i := 2) sc_octets_of.nd rfl (Or.inl rfl) (pe_lst pa_nil))
    (pss_cons (ps_set (i := 3) sc_octets_of.nd rfl (Or.inl rfl) (pv 0))
    (pss_cons (ps_for PassesOwn.never rfl (pi_range1 rfl T.b_range (pa_cons (pv 1) pa_nil)) (pg_name (i := 4) sc_octets_of.nd rfl (Or.inl rfl)) (pss_cons (ps_expr (pe_bm PySem.F.plainAttrs_list PySem.F.slot_list_append PySem.F.type_list_append mt_append (pv 2) (pa_cons (pe_op op_mod (pv 3) pe_int) pa_nil)))
    (pss_one (ps_set (i := 3) sc_octets_of.nd rfl (Or.inl rfl) (pe_op op_fdiv (pv 3) pe_int)))))
    (pss_one (ps_ret (pv 2)))))), ?_⟩
  refine ⟨(by show 0 ≤ sizeLine; decide), fun r hr' => ?_⟩
  refine ⟨_, rfl, _, rfl, n, rfl, by omega, by omega, ?_⟩
  refine for_range (n := n.toNat) (fun i σ H' => (∃ k, σ = [some (.int b), some (.int n), some (.ref r), some (.int (b / 256 ^ i)), k]) ∧ H' = upd H r (.lst ((octs b i).map V.int))) ?_ ?_ ?_
  · refine ⟨⟨none, ?_⟩, rfl⟩
    rw [Int.pow_zero, Int.ediv_one]
    rfl
  · rintro i σ H' hi ⟨⟨k, rfl⟩, rfl⟩
    refine ⟨_, rfl, .inl ⟨rfl, _, SqL.of upd_same⟩, _, rfl, _, _, rfl, rfl, (by show (0 : Int) < 256; decide), r, _, _, rfl, rfl, upd_same, ?_, ?_⟩
    · rw [List.length_map, octs_length]
      exact small (by omega)
    · refine ⟨_, rfl, _, _, rfl, rfl, ⟨by decide, by decide⟩, ⟨some (.int (0 + (i : Int))), ?_⟩, ?_⟩
      · rw [← next_oct]
        rfl
      · rw [upd_upd, octs_succ, List.map_append]
        rfl
  · rintro σ H' ⟨⟨k, rfl⟩, rfl⟩
    exact ⟨_, rfl, q r hr'⟩

def sp_number_of (K : PySem.W.Frag) : Sp := fun vs H Q _ => ∃ (p : Addr) (ns : List Int), vs = [.ref p] ∧ SqL K H p (ns.map V.int) ∧ Q (.int (valO ns)) H
theorem ok_number_of (T : Tx K mg a) : FnOk P w K mg base CX0 1 a.f_number_of a.fd_number_of ["octets"] (sp_number_of K) := by
  refine T.D_number_of.F.ok sc_number_of (fun vs H Q E h => ?_) (fun cdv A outer s H vs Q E hr h => ?_)
  · obtain ⟨p, ns, rfl, _⟩ := h
    rfl
  obtain ⟨p, ns, rfl, hS, q⟩ := h
  refine ⟨_, (pss_cons (ps_set (i := 1) sc_number_of.nd rfl (Or.inl rfl) pe_int)
    (pss_cons (ps_for PassesOwn.never rfl (pi_rev rfl T.b_reversed (pa_cons (pv 0) pa_nil) Tw.bt_reversed) (pg_name (i := 2) sc_number_of.nd rfl (Or.inl rfl)) (pss_one (ps_set (i := 1) sc_number_of.nd rfl (Or.inl rfl) (pe_op op_add (pe_op op_mul pe_int (pv 1)) (pv 2)))))
    (pss_one (ps_ret (pv 1))))), ?_⟩
  refine ⟨_, rfl, p, _, rfl, hS, ?_⟩
  refine for_rev (xs := ns.map V.int) (fun i σ H' => (∃ k, σ = [some (.ref p), some (.int (valO (ns.drop (ns.length - i)))), k]) ∧ H' = H) ?_ ?_ ?_ ?_
  · refine ⟨⟨none, ?_⟩, rfl⟩
    rw [Nat.sub_zero, List.drop_length]
    rfl
  · rintro i σ H' _ ⟨_, rfl⟩
    exact hS
  · rintro i x σ H' hi hx ⟨⟨k, rfl⟩, rfl⟩
    obtain ⟨c, hc, rfl⟩ := int_at hx
    rw [List.length_map] at hi hc
    refine ⟨_, rfl, _, _, rfl, rfl, .inl ⟨by decide, by decide⟩, _, rfl, _, _, rfl, rfl, ⟨some (.int c), ?_⟩, rfl⟩
    have e : ns.drop (ns.length - (i + 1)) = c :: ns.drop (ns.length - i) := by
      have e1 : ns.length - (i + 1) = ns.length - 1 - i := by omega
      have e2 : ns.length - i = ns.length - 1 - i + 1 := by omega
      rw [e1, e2, List.drop_eq_getElem_cons (by omega)]
      congr 1
      have := List.getElem?_eq_some_iff.mp hc
      exact this.2
    rw [e]
    rfl
  · rintro σ H' ⟨⟨k, rfl⟩, rfl⟩
    rw [List.length_map, Nat.sub_self, List.drop_zero]
    exact ⟨_, rfl, q⟩

def sp_numbers_octets (K : PySem.W.Frag) : Sp := fun vs H Q _ => ∃ (p : Addr) (ns : List Int) (m : Nat), vs = [.ref p, .int (m : Int)] ∧ (SqL K H p (ns.map V.int) ∨ H p = some (.tup (ns.map V.int))) ∧ ns.length ≤ 5000 ∧ m ≤ 100 ∧
  ∀ r H', H r = none → Same H H' → H' r = some (.lst ((ns.flatMap fun x => octs x m).map V.int)) → Q (.ref r) H'
theorem ok_numbers_octets (T : Tx K mg a) : FnOk P w K mg base CX0 2 a.f_numbers_octets a.fd_numbers_octets ["numbers", "size"] (sp_numbers_octets K) := by
  refine T.D_numbers_octets.F.ok sc_numbers_octets (fun vs H Q E h => ?_) (fun cdv A outer s H vs Q E hr h => ?_)
  · obtain ⟨p, ns, m, rfl, _⟩ := h
    rfl
  obtain ⟨p, ns, m, rfl, hS, hl, hm, q⟩ := h
  refine ⟨_, (pss_cons (ps_set (i := 2) sc_numbers_octets.nd rfl (Or.inl rfl) (pe_lst pa_nil))
    (pss_cons (ps_for PassesOwn.never rfl (pi_seq (pv 0)) (pg_name (i := 3) sc_numbers_octets.nd rfl (Or.inl rfl)) (pss_one (ps_expr (pe_bm PySem.F.plainAttrs_list PySem.F.slot_list_extend PySem.F.type_list_extend mt_extend (pv 2) (pa_cons (pe_cD T.D_octets_of (ok_octets_of T) (by decide) hr pass0 rfl (pa_cons (pv 3) (pa_cons (pv 1) pa_nil))) pa_nil)))))
    (pss_one (ps_ret (pv 2))))), ?_⟩
  refine ⟨(by show 0 ≤ sizeLine; decide), fun r hr' => ?_⟩
  rcases hS with hS | hS
  · refine ⟨_, rfl, p, rfl, .inl ⟨⟨_, (same_new hr' _).seq hS⟩, ?_⟩⟩
    refine for_list (xs := ns.map V.int) (fun i σ H' => (∃ k, σ = [some (.ref p), some (.int (m : Int)), some (.ref r), k]) ∧ Same H H' ∧ H' r = some (.lst (((ns.take i).flatMap fun x => octs x m).map V.int))) ⟨⟨none, rfl⟩, same_new hr' _, upd_same⟩ ?_ ?_ ?_
    · rintro i σ H' _ ⟨_, sm, _⟩
      exact sm.seq hS
    · rintro i x σ H' hx ⟨⟨k, rfl⟩, sm, hr1⟩
      obtain ⟨c, hc, rfl⟩ := int_at hx
      have hi := (List.getElem?_eq_some_iff.mp hc).1
      refine ⟨_, rfl, .inl ⟨rfl, _, SqL.of hr1⟩, _, rfl, _, rfl, c, (m : Int), rfl, by omega, by omega, fun p2 hp2 => ?_⟩
      have ne : r ≠ p2 := ne_of_none hr1 hp2
      rw [Int.toNat_natCast] at *
      refine ⟨r, p2, _, _, rfl, rfl, by rw [upd_ne ne]; exact hr1, upd_same, ?_, ⟨_, rfl⟩, same_set (sm.trans (same_new hp2 _)) hr' _, ?_⟩
      · rw [List.length_map, List.length_map, flat_len, List.length_take, octs_length, sizeLine_eq]
        have : m * min i ns.length ≤ 100 * 5000 := Nat.mul_le_mul (by omega) (by omega)
        omega
      · rw [upd_same, List.take_add_one, hc]
        show _ = some (HO.lst (((ns.take i ++ [c]).flatMap fun x => octs x m).map V.int))
        rw [List.flatMap_append, List.map_append]
        simp
    · rintro σ H' ⟨⟨k, rfl⟩, sm, hr1⟩
      rw [List.length_map, List.take_length] at hr1
      exact ⟨_, rfl, q r H' hr' sm hr1⟩
  · refine ⟨_, rfl, p, rfl, .inr ⟨⟨_, SqT.of (same_new hr' _ _ _ hS)⟩, ?_⟩⟩
    refine for_tup (xs := ns.map V.int) (fun i σ H' => (∃ k, σ = [some (.ref p), some (.int (m : Int)), some (.ref r), k]) ∧ Same H H' ∧ H' r = some (.lst (((ns.take i).flatMap fun x => octs x m).map V.int))) ⟨⟨none, rfl⟩, same_new hr' _, upd_same⟩ ?_ ?_ ?_
    · rintro i σ H' _ ⟨_, sm, _⟩
      exact SqT.of (sm _ _ hS)
    · rintro i x σ H' hx ⟨⟨k, rfl⟩, sm, hr1⟩
      obtain ⟨c, hc, rfl⟩ := int_at hx
      have hi := (List.getElem?_eq_some_iff.mp hc).1
      refine ⟨_, rfl, .inl ⟨rfl, _, SqL.of hr1⟩, _, rfl, _, rfl, c, (m : Int), rfl, by omega, by omega, fun p2 hp2 => ?_⟩
      have ne : r ≠ p2 := ne_of_none hr1 hp2
      rw [Int.toNat_natCast] at *
      refine ⟨r, p2, _, _, rfl, rfl, by rw [upd_ne ne]; exact hr1, upd_same, ?_, ⟨_, rfl⟩, same_set (sm.trans (same_new hp2 _)) hr' _, ?_⟩
      · rw [List.length_map, List.length_map, flat_len, List.length_take, octs_length, sizeLine_eq]
        have : m * min i ns.length ≤ 100 * 5000 := Nat.mul_le_mul (by omega) (by omega)
        omega
      · rw [upd_same, List.take_add_one, hc]
        show _ = some (HO.lst (((ns.take i ++ [c]).flatMap fun x => octs x m).map V.int))
        rw [List.flatMap_append, List.map_append]
        simp
    · rintro σ H' ⟨⟨k, rfl⟩, sm, hr1⟩
      rw [List.length_map, List.take_length] at hr1
      exact ⟨_, rfl, q r H' hr' sm hr1⟩

def sp_bits_octets (K : PySem.W.Frag) : Sp := fun vs H Q _ => ∃ (p t : Addr) (bs ah : List Int), vs = [.ref p, .ref t] ∧ SqL K H p (bs.map V.int) ∧ H t = some (.tup (ah.map V.int)) ∧ bs.length ≤ 5000 ∧ ah.length ≤ 5000 ∧
  ∀ r H', H r = none → Same H H' → H' r = some (.lst ((bs.flatMap (fun x => octs x 4) ++ ah.flatMap (fun x => octs x 2)).map V.int)) → Q (.ref r) H'
theorem ok_bits_octets (T : Tx K mg a) : FnOk P w K mg base CX0 3 a.f_bits_octets a.fd_bits_octets ["blocks", "ahead"] (sp_bits_octets K) := by
  refine T.D_bits_octets.F.ok sc_bits_octets (fun vs H Q E h => ?_) (fun cdv A outer s H vs Q E hr h => ?_)
  · obtain ⟨p, t, bs, ah, rfl, _⟩ := h
    rfl
  obtain ⟨p, t, bs, ah, rfl, hS, hT, hl1, hl2, q⟩ := h
  refine ⟨_, (pss_one (ps_ret (pe_op op_cat (pe_cD T.D_numbers_octets (ok_numbers_octets T) (by decide) hr pass0 rfl (pa_cons (pv 0) (pa_cons (pe_glob (v := .int 4) rfl T.c_BLOCK_OCTETS ⟨_, rfl⟩) pa_nil))) (pe_cD T.D_numbers_octets (ok_numbers_octets T) (by decide) hr pass0 rfl (pa_cons (pv 1) (pa_cons (pe_glob (v := .int 2) rfl T.c_COUNT_OCTETS ⟨_, rfl⟩) pa_nil)))))), ?_⟩
  refine ⟨_, rfl, p, bs, 4, rfl, .inl hS, hl1, by decide, fun r1 H1 hr1 sm1 x1 => ?_⟩
  refine ⟨_, rfl, t, ah, 2, rfl, .inr (sm1 _ _ hT), hl2, by decide, fun r2 H2 hr2 sm2 x2 => ?_⟩
  refine ⟨r1, r2, _, _, rfl, rfl, sm2 _ _ x1, x2, ?_, fun r hr' => ?_⟩
  · rw [List.length_map, List.length_map, flat_len, flat_len, sizeLine_eq]
    omega
  refine q r _ ((sm1.trans sm2).free hr') (sm1.trans (sm2.trans (same_new hr' _))) ?_
  rw [upd_same, List.map_append]

def sp_tree_octets : Sp := fun vs H Q E => ∃ (p : Addr) (ds : List Int), vs = [.ref p] ∧ H p = some (.lst (ds.map V.int)) ∧ ds.length ≤ 2048 ∧ GoodD ds ∧ ∀ r H' lows, H r = none → Same H H' → Lows (brk ds 0) lows → H' r = some (.lst ((treeO (brk ds 0) lows).map V.int)) → Q (.ref r) H'
theorem ok_tree_octets (T : Tx K mg a) : FnOk P w K mg base CX0 8 a.f_tree_octets a.fd_tree_octets ["depths"] sp_tree_octets := by
  refine T.D_tree_octets.F.ok sc_tree_octets (fun vs H Q E h => ?_) (fun cdv A outer s H vs Q E hr h => ?_)
  · obtain ⟨p, ds, rfl, _⟩ := h
    rfl
  obtain ⟨p, ds, rfl, hp, h⟩ := h
  refine ⟨_, (pss_cons (ps_set (i := 1) sc_tree_octets.nd rfl (Or.inl rfl) (pe_cD T.D_kept_tree (ok_kept_tree T) (by decide) hr pass0 rfl (pa_cons (pv 0) pa_nil)))
    (pss_cons (ps_set (i := 2) sc_tree_octets.nd rfl (Or.inl rfl) (pe_ix ix_tup (pv 1) pe_int (fun _ _ => rfl)))
    (pss_cons (ps_set (i := 3) sc_tree_octets.nd rfl (Or.inl rfl) (pe_ix ix_tup (pv 1) pe_int (fun _ _ => rfl)))
    (pss_cons (ps_set (i := 4) sc_tree_octets.nd rfl (Or.inl rfl) (pe_op op_fdiv (pe_callB call_len_seq rfl T.b_len Tw.bt_len (pa_cons (pe_ix ix_tup (pv 2) pe_int (fun _ _ => rfl)) pa_nil)) pe_int))
    (pss_cons (ps_set (i := 5) sc_tree_octets.nd rfl (Or.inl rfl) (pe_slice sl_tup (pe_ix ix_tup (pv 2) pe_int (fun _ _ => rfl)) (po_some (pv 4)) (po_some (pe_op op_add (pv 4) (pe_callB call_len_seq rfl T.b_len Tw.bt_len (pa_cons (pv 3) pa_nil))))))
    (pss_cons (ps_set (i := 6) sc_tree_octets.nd rfl (Or.inl rfl) (pe_cD T.D_octets_of (ok_octets_of T) (by decide) hr pass0 rfl (pa_cons (pe_ix ix_tup (pv 2) pe_int (fun _ _ => rfl)) (pa_cons (pe_glob (v := .int 2) rfl T.c_COUNT_OCTETS ⟨_, rfl⟩) pa_nil))))
    (pss_one (ps_ret (pe_op op_cat (pe_op op_cat (pe_op op_cat (pe_lst (pa_cons (pe_glob (v := .int 2) rfl T.c_TREE ⟨_, rfl⟩) pa_nil)) (pv 6)) (pe_cD T.D_bits_octets (ok_bits_octets T) (by decide) hr pass0 rfl (pa_cons (pv 3) (pa_cons (pe_ix ix_tup (pv 2) pe_int (fun _ _ => rfl)) pa_nil)))) (pe_cD T.D_numbers_octets (ok_numbers_octets T) (by decide) hr pass0 rfl (pa_cons (pv 5) (pa_cons (pe_glob (v := .int 2) rfl T.c_COUNT_OCTETS ⟨_, rfl⟩) pa_nil)))))))))))), ?_⟩
  obtain ⟨hl, hg, q⟩ := h
  have hbl := brk_len hg
  have hbb := isBits_brk ds 0
  have hm : many (brk ds 0).length ≤ 128 := by
    unfold many
    omega
  refine ⟨_, rfl, p, ds, rfl, hp, hl, hg, fun kr t ah nd bl lows S xs H1 hb0 sm1 xr kb => ?_⟩
  have hll := kb.low.len
  have hlS : lows.length ≤ S := by
    obtain ⟨_, _, z, _⟩ := kb.sz
    exact z
  have hS0 := kb.sz.pos
  have hxl := kb.heap.len
  have hS4 := kb.sz.le (by omega)
  have xt := kb.tab.tup
  refine ⟨_, rfl, kr, _, _, _, rfl, rfl, SqT.of xr, rfl, ?_⟩
  refine ⟨_, rfl, kr, _, _, _, rfl, rfl, SqT.of xr, rfl, ?_⟩
  refine ⟨_, rfl, t, _, _, _, rfl, rfl, SqT.of xt, rfl, nd, _, rfl, .inr (SqT.of kb.nds), _, _, rfl, rfl, ⟨by decide, by decide⟩, ?_⟩
  have eS : (xs.length : Int) / 2 = (S : Int) := by omega
  have elb : ((packs (brk ds 0)).map V.int).length = lows.length := by
    rw [List.length_map, packs_length, hll]
  refine ⟨_, rfl, t, _, _, _, rfl, rfl, SqT.of xt, rfl, _, rfl, _, rfl, _, rfl, _, rfl, bl, _, rfl, .inl (SqL.of kb.bls), _, _, rfl, rfl, _, rfl, nd, _, rfl, SqT.of kb.nds, ?_, fun lo hlo => ?_⟩
  · rintro ⟨z, _⟩
    rw [eS, HT.sIx_nat] at z
    omega
  have ec : cutV xs (some ((xs.length : Int) / 2)) (some ((xs.length : Int) / 2 + (((packs (brk ds 0)).map V.int).length : Int))) = lows.map V.int := by
    rw [eS, elb, show (S : Int) + (lows.length : Int) = ((S + lows.length : Nat) : Int) from by omega, cut_natV (by omega) (by omega), Nat.add_sub_cancel_left, heap_lows kb.sz kb.heap]
  rw [ec]
  have s0 := same_new hlo (.tup (lows.map V.int))
  have xlo : upd H1 lo (.tup (lows.map V.int)) lo = some (.tup (lows.map V.int)) := upd_same
  generalize upd H1 lo (.tup (lows.map V.int)) = H2 at *
  refine ⟨_, rfl, t, _, _, _, rfl, rfl, SqT.of (s0 _ _ xt), rfl, _, _, rfl, by omega, by decide, fun l2 hl2 => ?_⟩
  rw [show ((2 : Int)).toNat = 2 from rfl]
  have s2 := same_new hl2 (.lst ((octs ((brk ds 0).length : Int) 2).map V.int))
  refine ⟨(by show 1 ≤ sizeLine; decide), fun l1 hl1 => ?_⟩
  have s1 := same_new hl1 (.lst [.int 2])
  refine ⟨_, rfl, l1, l2, _, _, rfl, rfl, upd_same, s1 _ _ upd_same, ?_, fun l3 hl3 => ?_⟩
  · rw [List.length_map, octs_length, sizeLine_eq]
    show 1 + 2 ≤ _
    decide
  have s3 := same_new hl3 (.lst ([.int 2] ++ (octs ((brk ds 0).length : Int) 2).map V.int))
  have s13 := s0.trans (s2.trans (s1.trans s3))
  refine ⟨_, rfl, _, rfl, t, _, _, _, rfl, rfl, SqT.of (s13 _ _ xt), rfl, bl, ah, packs (brk ds 0), ahd (brk ds 0) (many (brk ds 0).length), rfl, SqL.of (s13 _ _ kb.bls), s13 _ _ kb.tab.ahs, ?_, ?_, fun l4 H4 hl4 sm4 x4 => ?_⟩
  · rw [packs_length]
    omega
  · rw [ahd_length]
    omega
  refine ⟨l3, l4, _, _, rfl, rfl, sm4 _ _ upd_same, x4, ?_, fun l5 hl5 => ?_⟩
  · rw [List.length_append, List.length_map, List.length_map, octs_length, List.length_append, flat_len, flat_len, packs_length, ahd_length, sizeLine_eq]
    show 1 + 2 + _ ≤ _
    omega
  have s5 := same_new hl5 (.lst ([.int 2] ++ (octs ((brk ds 0).length : Int) 2).map V.int ++ ((packs (brk ds 0)).flatMap (fun x => octs x 4) ++ (ahd (brk ds 0) (many (brk ds 0).length)).flatMap (fun x => octs x 2)).map V.int))
  have s25 := s2.trans (s1.trans (s3.trans (sm4.trans s5)))
  refine ⟨_, rfl, lo, lows, 2, rfl, .inr (s25 _ _ xlo), by omega, by decide, fun l6 H6 hl6 sm6 x6 => ?_⟩
  refine ⟨l5, l6, _, _, rfl, rfl, sm6 _ _ upd_same, x6, ?_, fun r hr' => ?_⟩
  · rw [List.length_append, List.length_append, List.length_map, List.length_map, List.length_map, octs_length, List.length_append, flat_len, flat_len, flat_len, packs_length, ahd_length, sizeLine_eq]
    show 1 + 2 + _ + _ ≤ _
    omega
  have sA := sm1.trans (s0.trans (s25.trans sm6))
  refine q r _ lows (sA.free hr') (sA.trans (same_new hr' _)) kb.low ?_
  rw [upd_same]
  unfold treeO
  rw [List.map_append (l₁ := [2] ++ _ ++ _), List.map_append (l₁ := [2] ++ _), List.map_append]
  rfl
theorem comp_rngE {lo : Int} {n : Nat} {cap : L2.St} {tt : TT} {te : TE} {Qf : Addr → Hp → Prop} {H : Hp} (f : Nat → Int) (G : Nat → Prop) (hl : n < sizeLine)
    (htt : ∀ (z : Int) (H' : Hp) (Q : Bool → Hp → Prop), Q true H' → tt (some (.int z) :: cap) H' Q) (hte : ∀ (i : Nat) (H' : Hp) (Q : VK), i < n → Same H H' → (G i → ∀ H'', Same H' H'' → Q (.int (f i)) H'') → te (some (.int (lo + i)) :: cap) H' Q)
    (q : (∀ i < n, G i) → ∀ D X, H D = none → Same H X → X D = some (.lst (((List.range n).map f).map V.int)) → Qf D X) : rdComp (Itr lo n) cap tt te Qf H := by
  intro D hD
  refine ⟨fun i m ys H1 => m = n - i ∧ i ≤ n ∧ ys = ((List.range i).map f).map V.int ∧ Same H H1 ∧ H1 D = some (.lst ys) ∧ ∀ j < i, G j, ⟨_, rfl, Nat.zero_le _, rfl, same_new hD _, upd_same, fun j hj => absurd hj (Nat.not_lt_zero _)⟩, ?_⟩
  rintro i m ys H1 ⟨rfl, hi, rfl, sm, hD1, hG⟩
  by_cases hlt : i < n
  · refine .inr ⟨hlt, fun v H2 y => ?_⟩
    obtain ⟨rfl, rfl⟩ := y
    refine htt _ _ _ ?_
    rw [if_pos rfl]
    refine hte i _ _ hlt sm fun gi H3 s3 => ⟨s3 _ _ hD1, ?_, n - (i + 1), by omega, rfl, hlt, ?_, same_set (sm.trans s3) hD _, upd_same, fun j hj => ?_⟩
    · rw [List.length_map, List.length_map, List.length_range]
      omega
    · rw [List.range_succ, List.map_append, List.map_append]
      rfl
    · rcases Nat.lt_succ_iff_lt_or_eq.mp hj with z | z
      · exact hG j z
      · rw [z]
        exact gi
  · have e : i = n := by omega
    subst e
    exact .inl ⟨Nat.le_refl _, q hG D H1 hD sm hD1⟩
/-- a number in octets, or a refusal -/
def sp_number_at (cN : Addr) : Sp := fun vs H Q E => ∃ (p : Addr) (os : List Int) (at0 sz : Nat), vs = [.ref p, .int (at0 : Int), .int (sz : Int)] ∧ H p = some (.lst (os.map V.int)) ∧
  (at0 + sz ≤ os.length → ∀ H', Same H H' → Q (.int (valO ((os.drop at0).take sz))) H') ∧ (os.length < at0 + sz → ∀ H', Same H H' → E (.ref cN) none H')
theorem ok_number_at (T : Tx K mg a) : FnOk P w K mg base (CXC P w) 2 a.f_number_at a.fd_number_at ["octets", "at", "size"] (sp_number_at a.c_NoOctets) := by
  refine T.D_number_at.F.okC sc_number_at (fun vs H Q E h => ?_) (fun cdv A outer s H vs Q E hr h => ?_)
  · obtain ⟨p, os, at0, sz, rfl, _⟩ := h
    rfl
  obtain ⟨p, os, at0, sz, rfl, hp, q, qE⟩ := h
  refine ⟨_, (pss_cons (ps_if (pt_cmpR op_gt (pe_op op_add (pv 1) (pv 2)) (pe_callB call_len_seq rfl T.b_len Tw.bt_len (pa_cons (pv 0) pa_nil)) (nomark _)) (pss_one (ps_raiseC T.x_NoOctets rfl (pa_cons pe_str pa_nil))) pss_nil)
    (pss_one (ps_ret (pe_cD T.D_number_of (ok_number_of T) (by decide) hr pass0 rfl (pa_cons (pe_slice sl_list (pv 0) (po_some (pv 1)) (po_some (pe_op op_add (pv 1) (pv 2)))) pa_nil))))), ?_⟩
  have ern : (os.map V.int).length = os.length := List.length_map ..
  refine ⟨_, rfl, _, rfl, _, _, rfl, rfl, _, rfl, p, _, rfl, .inl (SqL.of hp), _, _, rfl, rfl, _, rfl, ite2 (fun c => ?_) fun c => ?_⟩
  · have c : (((os.map V.int).length : Nat) : Int) < (at0 : Int) + (sz : Int) := of_decide_eq_true c
    exact ⟨(by show 1 ≤ sizeLine; decide), qE (by omega) _ (.refl _)⟩
  have c : ¬ ((((os.map V.int).length : Nat) : Int) < (at0 : Int) + (sz : Int)) := fun z => c (decide_eq_true z)
  refine ⟨_, rfl, _, rfl, _, rfl, _, rfl, _, rfl, _, _, rfl, rfl, _, rfl, p, _, rfl, SqL.of hp, fun c hc => ?_⟩
  have e : cutV (os.map V.int) (some (at0 : Int)) (some ((at0 : Int) + (sz : Int))) = ((os.drop at0).take sz).map V.int := by
    rw [show (at0 : Int) + (sz : Int) = ((at0 + sz : Nat) : Int) by omega, cut_nat, Nat.add_sub_cancel_left]
  rw [e]
  exact ⟨c, _, rfl, SqL.of upd_same, q (by omega) _ (same_new hc _)⟩
def sp_numbers_at (cN : Addr) : Sp := fun vs H Q E => ∃ (p : Addr) (os : List Int) (at0 sz m : Nat), vs = [.ref p, .int (at0 : Int), .int (sz : Int), .int (m : Int)] ∧ H p = some (.lst (os.map V.int)) ∧ m ≤ 5000 ∧ 0 < sz ∧ sz ≤ 100 ∧
  (at0 + sz * m ≤ os.length ∨ m = 0 → ∀ r H', H r = none → Same H H' → H' r = some (.lst (((List.range m).map fun k => valO ((os.drop (at0 + sz * k)).take sz)).map V.int)) → Q (.ref r) H') ∧
  (os.length < at0 + sz * m → 0 < m → ∀ H', Same H H' → E (.ref cN) none H')
theorem ok_numbers_at (T : Tx K mg a) : FnOk P w K mg base (CXC P w) 3 a.f_numbers_at a.fd_numbers_at ["octets", "at", "size", "many"] (sp_numbers_at a.c_NoOctets) := by
  refine T.D_numbers_at.F.okC sc_numbers_at (fun vs H Q E h => ?_) (fun cdv A outer s H vs Q E hr h => ?_)
  · obtain ⟨p, os, at0, sz, m, rfl, _⟩ := h
    rfl
  obtain ⟨p, os, at0, sz, m, rfl, hp, hm, hs0, hsz, q, qE⟩ := h
  refine ⟨_, (pss_one (ps_ret (pe_compR rfl (CompOk.three (j := 2) (k := 0) (l := 1) (by decide) (by decide) (by decide) rfl rfl rfl (Or.inl rfl) (Or.inl rfl) (Or.inl rfl) rfl rfl rfl rfl (Or.inl rfl) (Or.inl rfl) (Or.inl rfl)) (pi_range1 rfl T.b_range (pa_cons (pv 3) pa_nil)) (fun _ _ _ _ => pts_nil) (fun _ _ _ _ _ _ _ en => (pe_cD T.D_number_at (ok_number_at T) (by decide) hr (comp_pass en fun _ _ z => z) rfl (pa_cons (pv 2) (pa_cons (pe_op op_add (pv 3) (pe_op op_mul (pv 1) (pv 0))) (pa_cons (pv 1) pa_nil)))))))), ?_⟩
  refine ⟨_, rfl, (m : Int), rfl, by omega, by omega, ?_⟩
  rw [Int.toNat_natCast]
  refine comp_rngE (fun k => valO ((os.drop (at0 + sz * k)).take sz)) (fun k => at0 + sz * k + sz ≤ os.length) (by rw [sizeLine_eq]; omega) (fun _ _ _ q => q) (fun i H' Q hi sm qq => ?_) fun hG D X hD sX xD => q ?_ D X hD sX xD
  · refine ⟨_, rfl, _, rfl, _, rfl, _, rfl, _, _, rfl, rfl, .inl ⟨by omega, by omega⟩, _, _, rfl, rfl, _, rfl, p, os, at0 + sz * i, sz, ?_, sm _ _ hp, qq, fun z H'' s2 => qE ?_ (by omega) H'' (sm.trans s2)⟩
    · show [V.ref p, V.int ((at0 : Int) + (sz : Int) * (0 + (i : Int))), V.int (sz : Int)] = _
      rw [Int.zero_add, Int.natCast_add, Int.natCast_mul]
    · have : sz * (i + 1) ≤ sz * m := Nat.mul_le_mul_left _ hi
      rw [Nat.mul_succ] at this
      omega
  · rcases Nat.eq_zero_or_pos m with z | z
    · exact .inr z
    · have h1 := hG (m - 1) (by omega)
      have h2 : sz * (m - 1 + 1) = sz * (m - 1) + sz := Nat.mul_succ ..
      rw [show m - 1 + 1 = m by omega] at h2
      exact .inl (by omega)
def sp_block_total : Sp := fun vs H Q _ => ∃ m : Nat, vs = [.int (m : Int)] ∧ Q (.int ((many m : Nat) : Int)) H
theorem ok_block_total (T : Tx K mg a) : FnOk P w K mg base CX0 1 a.f_block_total a.fd_block_total ["many"] sp_block_total := by
  refine T.D_block_total.F.ok sc_block_total (fun vs H Q E h => ?_) (fun cdv A outer s H vs Q E hr h => ?_)
  · obtain ⟨m, rfl, _⟩ := h
    rfl
  obtain ⟨m, rfl, q⟩ := h
  refine ⟨_, (pss_one (ps_ret (pe_op op_fdiv (pe_op op_sub (pe_op op_add (pv 0) (pe_glob (v := .int 32) rfl T.c_BLOCK_BITS ⟨_, rfl⟩)) pe_int) (pe_glob (v := .int 32) rfl T.c_BLOCK_BITS ⟨_, rfl⟩)))), ?_⟩
  refine ⟨_, rfl, _, _, rfl, rfl, _, _, rfl, rfl, _, _, rfl, rfl, ⟨by decide, by decide⟩, ?_⟩
  have e : ((m : Int) + 32 - 1) / 32 = ((many m : Nat) : Int) := by
    unfold many
    omega
  rw [← e] at q
  exact q
def numsO (os : List Int) (n : Nat) : List Int := (List.range (many n)).map fun k => valO ((os.drop (3 + 4 * k)).take 4)
def toldN (os : List Int) : Nat := (valO ((os.drop 1).take 2)).toNat
def toldB (os : List Int) : List Int := (unp (numsO os (toldN os))).take (toldN os)
def ToldOk (os : List Int) : Prop := 3 ≤ os.length ∧ 3 + 4 * many (toldN os) ≤ os.length
def sp_bits_at (cN : Addr) : Sp := fun vs H Q E => ∃ (p : Addr) (os : List Int) (n : Nat), vs = [.ref p, .int 3, .int (n : Int)] ∧ H p = some (.lst (os.map V.int)) ∧ n ≤ 65535 ∧ 3 ≤ os.length ∧ os.length ≤ 2000 ∧
  (3 + 4 * many n ≤ os.length → ∀ r H', H r = none → Same H H' → H' r = some (.lst (((unp (numsO os n)).take n).map V.int)) → Q (.ref r) H') ∧ (os.length < 3 + 4 * many n → ∀ H', Same H H' → E (.ref cN) none H')
theorem ok_bits_at (T : Tx K mg a) : FnOk P w K mg base (CXC P w) 4 a.f_bits_at a.fd_bits_at ["octets", "at", "many"] (sp_bits_at a.c_NoOctets) := by
  refine T.D_bits_at.F.okC sc_bits_at (fun vs H Q E h => ?_) (fun cdv A outer s H vs Q E hr h => ?_)
  · obtain ⟨p, os, n, rfl, _⟩ := h
    rfl
  obtain ⟨p, os, n, rfl, hp, hn, h3, hl, q, qE⟩ := h
  refine ⟨_, (pss_one (ps_ret (pe_cD T.D_unpacked (ok_unpacked T) (by decide) hr pass0 rfl (pa_cons (pe_cD T.D_numbers_at (ok_numbers_at T) (by decide) hr passC rfl (pa_cons (pv 0) (pa_cons (pv 1) (pa_cons (pe_glob (v := .int 4) rfl T.c_BLOCK_OCTETS ⟨_, rfl⟩) (pa_cons (pe_cD T.D_block_total (ok_block_total T) (by decide) hr pass0 rfl (pa_cons (pv 2) pa_nil)) pa_nil))))) (pa_cons (pv 2) pa_nil))))), ?_⟩
  have hm : many n ≤ 2048 := by
    unfold many
    omega
  have hmm : n ≤ 32 * many n := by
    unfold many
    omega
  have nl : (numsO os n).length = many n := by
    unfold numsO
    rw [List.length_map, List.length_range]
  refine ⟨_, rfl, _, rfl, _, rfl, n, rfl, p, os, 3, 4, many n, rfl, hp, by omega, by decide, by decide, fun hok r1 H1 hr1 s1 x1 => ?_, fun hbad _ H' s1 => qE hbad H' s1⟩
  have hok' : 3 + 4 * many n ≤ os.length := by
    rcases hok with z | z
    · exact z
    · rw [z]
      omega
  refine ⟨_, rfl, r1, numsO os n, n, rfl, SqL.of x1, by rw [nl]; exact hmm, by rw [nl]; omega, fun r H2 hr2 s2 x2 => q hok' r H2 (s1.free hr2) (s1.trans s2) x2⟩
theorem valO_two {xs : List Int} (h : ∀ y ∈ xs, 0 ≤ y ∧ y ≤ 255) (hl : xs.length ≤ 2) : 0 ≤ valO xs ∧ valO xs ≤ 65535 := by
  match xs, hl with
  | [], _ => exact ⟨by decide, by decide⟩
  | [x], _ =>
    have h1 := h x (by simp)
    show 0 ≤ 256 * 0 + x ∧ 256 * 0 + x ≤ 65535
    omega
  | [x, y], _ =>
    have h1 := h x (by simp)
    have h2 := h y (by simp)
    show 0 ≤ 256 * (256 * 0 + y) + x ∧ 256 * (256 * 0 + y) + x ≤ 65535
    omega
def sp_told_bits (cN : Addr) : Sp := fun vs H Q E => ∃ (p : Addr) (os : List Int), vs = [.ref p] ∧ H p = some (.lst (os.map V.int)) ∧ os.length ≤ 2000 ∧ (∀ y ∈ os, 0 ≤ y ∧ y ≤ 255) ∧
  (ToldOk os → ∀ r H', H r = none → Same H H' → H' r = some (.lst ((toldB os).map V.int)) → Q (.ref r) H') ∧ (¬ ToldOk os → ∀ H', Same H H' → E (.ref cN) none H')
theorem ok_told_bits (T : Tx K mg a) : FnOk P w K mg base (CXC P w) 5 a.f_told_bits a.fd_told_bits ["octets"] (sp_told_bits a.c_NoOctets) := by
  refine T.D_told_bits.F.okC sc_told_bits (fun vs H Q E h => ?_) (fun cdv A outer s H vs Q E hr h => ?_)
  · obtain ⟨p, os, rfl, _⟩ := h
    rfl
  obtain ⟨p, os, rfl, hp, hl, hall, q, qE⟩ := h
  refine ⟨_, (pss_one (ps_ret (pe_cD T.D_bits_at (ok_bits_at T) (by decide) hr passC rfl (pa_cons (pv 0) (pa_cons (pe_op op_add pe_int (pe_glob (v := .int 2) rfl T.c_COUNT_OCTETS ⟨_, rfl⟩)) (pa_cons (pe_cD T.D_number_at (ok_number_at T) (by decide) hr passC rfl (pa_cons (pv 0) (pa_cons pe_int (pa_cons (pe_glob (v := .int 2) rfl T.c_COUNT_OCTETS ⟨_, rfl⟩) pa_nil)))) pa_nil)))))), ?_⟩
  have hv : 0 ≤ valO ((os.drop 1).take 2) ∧ valO ((os.drop 1).take 2) ≤ 65535 := valO_two (fun y hy => hall y (List.mem_of_mem_drop (List.mem_of_mem_take hy))) (by rw [List.length_take]; omega)
  have en : valO ((os.drop 1).take 2) = ((toldN os : Nat) : Int) := by
    unfold toldN
    omega
  refine ⟨_, rfl, _, _, rfl, rfl, _, rfl, p, os, 1, 2, rfl, hp, fun h3 H1 s1 => ?_, fun hbad H' s1 => qE (fun z => ?_) H' s1⟩
  · rw [en]
    exact ⟨p, os, toldN os, rfl, s1 _ _ hp, by omega, by omega, hl, fun hok r H2 hr2 s2 x2 => q ⟨by omega, hok⟩ r H2 (s1.free hr2) (s1.trans s2) x2, fun hbad H2 s2 => qE (fun z => by have := z.2; omega) H2 (s1.trans s2)⟩
  · have := z.1
    omega
def OctOk (os : List Int) : Prop := ∀ y ∈ os, 0 ≤ y ∧ y ≤ 255
def sp_check_octets (cN : Addr) : Sp := fun vs H Q E => ∃ (p : Addr) (os : List Int), vs = [.ref p] ∧ H p = some (.lst (os.map V.int)) ∧ (OctOk os → Q .non H) ∧ (¬ OctOk os → E (.ref cN) none H)
theorem ok_check_octets (T : Tx K mg a) : FnOk P w K mg base (CX1 P w) 1 a.f_check_octets a.fd_check_octets ["octets"] (sp_check_octets a.c_NoOctets) := by
  refine T.D_check_octets.F.ok1 sc_check_octets (fun vs H Q E h => ?_) (fun cdv A outer s H vs Q E hr h => ?_)
  · obtain ⟨p, os, rfl, _⟩ := h
    rfl
  obtain ⟨p, os, rfl, hp, q, qE⟩ := h
  refine ⟨_, (pss_one (ps_for passOwn rfl (pi_list (pv 0)) (pg_name (i := 1) sc_check_octets.nd rfl (Or.inl rfl)) (pss_one (ps_if (pt_not (pt_chain op_le op_le pe_int (pv 1) pe_int)) (pss_one (ps_raise T.x_NoOctets rfl (pa_cons pe_str pa_nil))) pss_nil)))), ?_⟩
  refine ⟨_, rfl, p, rfl, ⟨_, SqL.of hp⟩, ?_⟩
  refine for_list (xs := os.map V.int) (fun i σ X => X = H ∧ (∃ k, σ = [some (.ref p), k]) ∧ ∀ y ∈ os.take i, 0 ≤ y ∧ y ≤ 255) ⟨rfl, ⟨none, rfl⟩, fun y hy => by simp at hy⟩ ?_ ?_ ?_
  · rintro i σ X _ ⟨rfl, _⟩
    exact SqL.of hp
  · rintro i x σ X hx ⟨rfl, ⟨k, rfl⟩, hpre⟩
    obtain ⟨z, hz, rfl⟩ := int_at hx
    have bad : ¬ (0 ≤ z ∧ z ≤ 255) → E (.ref a.c_NoOctets) none X := fun n => qE fun g => n (g z (List.mem_of_getElem? hz))
    refine ⟨_, rfl, _, _, rfl, rfl, _, rfl, ite2 (fun c => ?_) fun c => ?_⟩
    · have c : (0 : Int) ≤ z := of_decide_eq_true c
      refine ⟨_, _, rfl, rfl, _, rfl, ?_⟩
      by_cases c2 : z ≤ 255
      · rw [decide_eq_true c2]
        refine iteF ⟨rfl, ⟨_, rfl⟩, fun y hy => ?_⟩
        rw [List.take_add_one, hz] at hy
        rcases List.mem_append.mp hy with hy | hy
        · exact hpre y hy
        · have : y = z := by simpa using hy
          omega
      · rw [decide_eq_false c2]
        exact iteT ⟨(by show 1 ≤ sizeLine; decide), bad fun n => c2 n.2⟩
    · have c : ¬ (0 : Int) ≤ z := fun n => c (decide_eq_true n)
      exact ⟨_, rfl, iteT ⟨(by show 1 ≤ sizeLine; decide), bad fun n => c n.1⟩⟩
  · rintro σ X ⟨rfl, _, hpre⟩
    exact q fun y hy => hpre y (by rw [List.length_map, List.take_length]; exact hy)
theorem flat_cut {m : Nat} : ∀ (xs : List Int) (k : Nat) (x : Int), xs[k]? = some x → ((xs.flatMap fun x => octs x m).drop (m * k)).take m = octs x m
  | [], k, x, h => by simp at h
  | y :: r, 0, x, h => by
    cases h
    rw [Nat.mul_zero, List.drop_zero, List.flatMap_cons, List.take_append, octs_length, Nat.sub_self, List.take_zero, List.append_nil, List.take_of_length_le (by rw [octs_length]; exact Nat.le_refl _)]
  | y :: r, k + 1, x, h => by
    rw [List.flatMap_cons, show m * (k + 1) = (octs y m).length + m * k by rw [octs_length, Nat.mul_succ, Nat.add_comm], List.drop_append, List.drop_of_length_le (Nat.le_add_right _ _), List.nil_append, Nat.add_sub_cancel_left]
    exact flat_cut r k x (by simpa using h)
theorem blkAt_range {ns : List Int} (hb : IsBits ns) (k : Nat) : 0 ≤ blkAt ns k ∧ blkAt ns k < 256 ^ 4 := by
  have hsb : IsBits ((ns.drop (32 * k)).take 32) := fun x hx => hb x (List.mem_of_mem_drop (List.mem_of_mem_take hx))
  refine ⟨blk_nonneg hsb, ?_⟩
  have h3 := blk_lt hsb
  have hl : ((ns.drop (32 * k)).take 32).length ≤ 32 := by
    rw [List.length_take]
    omega
  have h4 : (2 : Int) ^ ((ns.drop (32 * k)).take 32).length ≤ 2 ^ 32 := by
    have := Nat.pow_le_pow_right (show 0 < 2 by decide) hl
    have e : ∀ n : Nat, (2 : Int) ^ n = ((2 ^ n : Nat) : Int) := fun n => by simp
    rw [e, e]
    omega
  have h5 : (2 : Int) ^ 32 = 256 ^ 4 := by decide
  show blk ((ns.drop (32 * k)).take 32) < _
  omega
/-- octets that begin as rows and trees written do -/
def fro (t : Int) (ns rest : List Int) : List Int := [t] ++ octs (ns.length : Int) 2 ++ ((packs ns).flatMap (fun x => octs x 4) ++ rest)
theorem fro_count {t : Int} {ns rest : List Int} : ((fro t ns rest).drop 1).take 2 = octs (ns.length : Int) 2 := by
  unfold fro
  rw [List.append_assoc]
  show (octs (ns.length : Int) 2 ++ _).take 2 = _
  rw [List.take_append, octs_length, Nat.sub_self, List.take_zero, List.append_nil, List.take_of_length_le (by rw [octs_length]; exact Nat.le_refl _)]
theorem fro_three (t : Int) (ns rest : List Int) : (fro t ns rest).drop 3 = (packs ns).flatMap (fun x => octs x 4) ++ rest := by
  have h3 : ([t] ++ octs (ns.length : Int) 2).length = 3 := by rw [List.length_append, octs_length]; rfl
  unfold fro
  rw [List.drop_append, h3, List.drop_of_length_le (by rw [h3]; omega), List.nil_append, Nat.sub_self, List.drop_zero]
theorem fro_length (t : Int) (ns rest : List Int) : (fro t ns rest).length = 3 + 4 * many ns.length + rest.length := by
  unfold fro
  rw [List.length_append, List.length_append, List.length_append, octs_length, flat_len, packs_length]
  show 1 + 2 + _ = _
  omega
theorem fro_block {t : Int} {ns rest : List Int} {k : Nat} (hk : k < many ns.length) : ((fro t ns rest).drop (3 + 4 * k)).take 4 = octs (blkAt ns k) 4 := by
  have hp := packs_get hk
  have hpl := packs_length ns
  rw [← List.drop_drop, fro_three]
  have hfl : ((packs ns).flatMap fun x => octs x 4).length = 4 * many ns.length := by rw [flat_len, hpl]
  rw [List.drop_append, hfl, show 4 * k - 4 * many ns.length = 0 by omega, List.drop_zero, List.take_append]
  rw [show 4 - (((packs ns).flatMap fun x => octs x 4).drop (4 * k)).length = 0 by rw [List.length_drop, hfl]; omega, List.take_zero, List.append_nil]
  exact flat_cut _ k _ hp
theorem fro_toldN {t : Int} {ns rest : List Int} (hl : ns.length ≤ 65535) : toldN (fro t ns rest) = ns.length := by
  unfold toldN
  rw [fro_count, valO_octs _ _ (by omega) (by show (ns.length : Int) < 65536; omega), Int.toNat_natCast]
theorem fro_nums {t : Int} {ns rest : List Int} (hb : IsBits ns) : numsO (fro t ns rest) ns.length = packs ns := by
  unfold numsO
  refine List.ext_getElem? fun k => ?_
  by_cases hk : k < many ns.length
  · rw [List.getElem?_map, List.getElem?_range hk, packs_get hk]
    have hb' := blkAt_range hb k
    rw [Option.map_some, fro_block hk, valO_octs _ _ hb'.1 (by have := hb'.2; exact this)]
  · rw [List.getElem?_eq_none (by rw [List.length_map, List.length_range]; omega), List.getElem?_eq_none (by rw [packs_length]; omega)]
theorem fro_toldB {t : Int} {ns rest : List Int} (hb : IsBits ns) (hl : ns.length ≤ 65535) : toldB (fro t ns rest) = ns := by
  unfold toldB
  rw [fro_toldN hl, fro_nums hb, unp_packs hb]
theorem fro_ok {t : Int} {ns rest : List Int} (hl : ns.length ≤ 65535) : ToldOk (fro t ns rest) := by
  unfold ToldOk
  rw [fro_toldN hl, fro_length]
  omega
/-- the bits of octets -/
def un8 (xs : List Int) : List Int := xs.flatMap fun b => bits b 8
theorem un8_snoc (bs : List Int) (b : Int) : un8 (bs ++ [b]) = un8 bs ++ bits b 8 := by simp [un8]
theorem un8_length : ∀ bs : List Int, (un8 bs).length = 8 * bs.length
  | [] => rfl
  | b :: r => by
    have := un8_length r
    simp only [un8, List.flatMap_cons, List.length_append, bits_length, List.length_cons] at this ⊢
    omega
theorem un8_get : ∀ (bs : List Int) (i : Nat), (un8 bs)[i]? = (bs[i / 8]?).map fun b => bit b (i % 8)
  | [], i => by simp [un8]
  | b :: r, i => by
    show (bits b 8 ++ un8 r)[i]? = _
    by_cases hi : i < 8
    · rw [List.getElem?_append_left (by rw [bits_length]; exact hi), bits_get hi]
      have e1 : i / 8 = 0 := by omega
      have e2 : i % 8 = i := by omega
      rw [e1, e2]
      rfl
    · rw [List.getElem?_append_right (by rw [bits_length]; omega), bits_length, un8_get r (i - 8)]
      have e1 : i / 8 = (i - 8) / 8 + 1 := by omega
      have e2 : i % 8 = (i - 8) % 8 := by omega
      rw [e1, e2, List.getElem?_cons_succ]
theorem un8_bits (xs : List Int) : IsBits (un8 xs) := fun x hx => by
  obtain ⟨o, _, h⟩ := List.mem_flatMap.mp hx
  unfold bits at h
  obtain ⟨k, _, rfl⟩ := List.mem_map.mp h
  exact bit_cases o k
theorem bit_oct8 {ns : List Int} (h : IsBits ns) (j k : Nat) (hk : k < 8) : bit (oct8 ns j) k = (ns[8 * j + k]?).getD 0 := by
  unfold oct8
  rw [bit_blk ((h.drop _).take _), List.getElem?_take_of_lt hk, List.getElem?_drop]
/-- the bits that the octets from the fourth on tell, by eights -/
def dec8 (os : List Int) : List Int := (un8 ((os.drop 3).take ((min (toldN os) 4096 + 7) / 8))).take (toldN os)
theorem dec8_bits (os : List Int) : IsBits (dec8 os) := (un8_bits _).take _
theorem dec8_length (os : List Int) : (dec8 os).length ≤ 4096 := by
  unfold dec8
  rw [List.length_take, un8_length, List.length_take]
  omega
theorem fro_dec8 {t : Int} {ns rest : List Int} (hb : IsBits ns) (hl : ns.length ≤ 4096) : dec8 (fro t ns rest) = ns := by
  unfold dec8
  rw [fro_toldN (by omega), fro_three, Nat.min_eq_left hl]
  have e : (packs ns).flatMap (fun x => octs x 4) = (List.range (4 * many ns.length)).map (oct8 ns) := blocks_octs hb _
  have hm : (ns.length + 7) / 8 ≤ 4 * many ns.length := by
    unfold many
    omega
  have el : ((List.range (4 * many ns.length)).map (oct8 ns)).length = 4 * many ns.length := by rw [List.length_map, List.length_range]
  rw [e, List.take_append_of_le_length (by rw [el]; exact hm)]
  refine List.ext_getElem? fun i => ?_
  by_cases hi : i < ns.length
  · rw [List.getElem?_take_of_lt hi, un8_get, List.getElem?_take_of_lt (by omega), List.getElem?_map, List.getElem?_range (by omega), Option.map_some, Option.map_some, bit_oct8 hb _ _ (by omega), show 8 * (i / 8) + i % 8 = i by omega, List.getElem?_eq_getElem hi]
    rfl
  · rw [List.getElem?_eq_none (by rw [List.length_take]; omega), List.getElem?_eq_none (by omega)]
theorem dps_brk {ds : List Int} (hg : GoodD ds) : ∀ n : Nat, n ≤ (brk ds 0).length → ∃ nd : Nat, ((brk ds 0).take n).sum = (nd : Int) ∧ dps (brk ds 0) n = ds.take nd
  | 0, _ => ⟨0, rfl, rfl⟩
  | n + 1, hn => by
    obtain ⟨nd, h1, h2⟩ := dps_brk hg n (by omega)
    rw [dps_succ]
    rcases brk_next hg (show n < (brk ds 0).length by omega) with ⟨e, _⟩ | ⟨e, _⟩
    · refine ⟨nd, by rw [sum_succ e]; omega, ?_⟩
      rw [e, Option.getD_some, if_neg (by decide), List.append_nil, h2]
    · refine ⟨nd + 1, by rw [sum_succ e]; omega, ?_⟩
      rw [e, Option.getD_some, if_pos rfl, h2, List.take_add_one, brk_deep hg e h1]
      rfl
theorem dps_all {ds : List Int} (hg : GoodD ds) : dps (brk ds 0) (brk ds 0).length = ds := by
  obtain ⟨nd, h1, h2⟩ := dps_brk hg (brk ds 0).length (Nat.le_refl _)
  rw [List.take_length, brk_sum_all hg] at h1
  rw [h2, List.take_of_length_le (by omega)]

theorem treeO_fro (ns lows : List Int) : treeO ns lows = fro 2 ns ((ahd ns (many ns.length)).flatMap (fun x => octs x 2) ++ lows.flatMap (fun x => octs x 2)) := by
  unfold treeO fro
  simp only [List.append_assoc]
/-- the depths that octets tell -/
def dsO (os : List Int) : List Int := dps (toldB os) (toldB os).length
theorem toldB_bits (os : List Int) : IsBits (toldB os) := fun y hy => isBits_unp _ y (List.mem_of_mem_take hy)
theorem dsO_good {os : List Int} (h : Tree (toldB os)) : GoodD (dsO os) ∧ brk (dsO os) 0 = toldB os := by
  obtain ⟨ds, hg, e⟩ := tree_brk (toldB_bits os) h
  unfold dsO
  rw [← e, dps_all hg]
  exact ⟨hg, rfl⟩
def sp_told_depths (c1 c2 c3 : Addr) : Sp := fun vs H Q E => ∃ (p : Addr) (os : List Int), vs = [.ref p] ∧ H p = some (.lst (os.map V.int)) ∧ os.length ≤ 2000 ∧ (∀ y ∈ os, 0 ≤ y ∧ y ≤ 255) ∧
  (ToldOk os → (toldB os).length ≤ 4096 → Tree (toldB os) → ∀ r H', H r = none → Same H H' → H' r = some (.lst ((dsO os).map V.int)) → Q (.ref r) H') ∧
  (¬ (ToldOk os ∧ (toldB os).length ≤ 4096 ∧ Tree (toldB os)) → ∀ H', Same H H' → E (.ref c1) none H' ∧ E (.ref c2) none H' ∧ E (.ref c3) none H')
theorem ok_told_depths (T : Tx K mg a) : FnOk P w K mg base (CXC P w) 6 a.f_told_depths a.fd_told_depths ["octets"] (sp_told_depths a.c_NoOctets a.c_TooMany a.c_NoTree) := by
  refine T.D_told_depths.F.okC sc_told_depths (fun vs H Q E h => ?_) (fun cdv A outer s H vs Q E hr h => ?_)
  · obtain ⟨p, os, rfl, _⟩ := h
    rfl
  obtain ⟨p, os, rfl, hp, hl, hall, q, qE⟩ := h
  refine ⟨_, (pss_one (ps_ret (pe_cD T.D_depths_of (ok_depths_of T) (by decide) hr passC rfl (pa_cons (pe_cD T.D_told_bits (ok_told_bits T) (by decide) hr passC rfl (pa_cons (pv 0) pa_nil)) pa_nil)))), ?_⟩
  refine ⟨_, rfl, p, os, rfl, hp, hl, hall, fun hok r1 H1 hr1 s1 x1 => ?_, fun hbad H' s1 => (qE (fun z => hbad z.1) H' s1).1⟩
  refine ⟨r1, toldB os, rfl, SqL.of x1, ?_⟩
  by_cases h4 : (toldB os).length ≤ 4096
  · by_cases ht' : Tree (toldB os)
    · exact .inl ⟨h4, toldB_bits os, ht', fun r H2 hr2 s2 x2 => q hok h4 ht' r H2 (s1.free hr2) (s1.trans s2) x2⟩
    · exact .inr (.inr (.inr ⟨h4, toldB_bits os, ht', fun H2 s2 => (qE (fun z => ht' z.2.2) H2 (s1.trans s2)).2.2⟩))
  · exact .inr (.inl ⟨by omega, (qE (fun z => h4 z.2.1) H1 s1).2.1⟩)
/-- octets of a tree -/
def GoodT (os : List Int) : Prop := OctOk os ∧ ToldOk os ∧ (toldB os).length ≤ 4096 ∧ Tree (toldB os) ∧ ∃ lows, Lows (toldB os) lows ∧ treeO (toldB os) lows = os
theorem GoodT.dlen {os : List Int} (h : GoodT os) : (dsO os).length ≤ 2048 := by
  have h1 := dsO_good h.2.2.2.1
  have h2 := brk_len h1.1
  have h3 := h.2.2.1
  rw [h1.2] at h2
  omega
def sp_read_as (a : Ad) : Sp := fun vs H Q E => ∃ (p : Addr) (os : List Int), vs = [.ref p, .ref a.f_told_depths, .ref a.f_tree_octets] ∧ H p = some (.lst (os.map V.int)) ∧ os.length ≤ 2000 ∧
  (GoodT os → ∀ r H', H r = none → Same H H' → H' r = some (.lst ((dsO os).map V.int)) → Q (.ref r) H') ∧ (¬ GoodT os → ∀ H', Same H H' → E (.ref a.c_NoOctets) none H')
theorem ok_read_as (T : Tx K mg a) : FnOk P w K mg base (CX1 P w) 9 a.f_read_as a.fd_read_as ["octets", "tell", "write"] (sp_read_as a) := by
  refine T.D_read_as.F.ok1 sc_read_as (fun vs H Q E h => ?_) (fun cdv A outer s H vs Q E hr h => ?_)
  · obtain ⟨p, os, rfl, _⟩ := h
    rfl
  obtain ⟨p, os, rfl, hp, hl, q, qE⟩ := h
  refine ⟨_, (pss_cons (ps_expr (pe_cD T.D_check_octets (ok_check_octets T) (by decide) hr pass1 rfl (pa_cons (pv 0) pa_nil)))
    (pss_cons (ps_tryC rfl rfl (fun _ _ => (pss_cons (ps_set (i := 3) sc_read_as.nd rfl (Or.inl rfl) (pe_callV (ok_told_depths T) (by decide) hr passTC (i := 1) rfl T.D_told_depths.F.kp T.D_told_depths.b (pa_cons (pv 0) pa_nil)))
    (pss_one (ps_set (i := 4) sc_read_as.nd rfl (Or.inl rfl) (pe_callV (ok_tree_octets T) (by decide) hr pass0 (i := 2) rfl T.D_tree_octets.F.kp T.D_tree_octets.b (pa_cons (pv 3) pa_nil)))))) (phc_raise T.x_WoodError T.k_WoodError rfl T.x_NoOctets rfl (fun _ => (pa_cons pe_str pa_nil)) phc_nil))
    (pss_cons (ps_if (pt_cmpR (op_neD hr.units) (pv 4) (pv 0) (nomark _)) (pss_one (ps_raise T.x_NoOctets rfl (pa_cons pe_str pa_nil))) pss_nil)
    (pss_one (ps_ret (pv 3)))))), ?_⟩
  refine ⟨_, rfl, p, os, rfl, hp, fun hall => ?_, fun n => qE (fun g => n g.1) H (.refl _)⟩
  refine ⟨rfl, _, rfl, p, os, rfl, hp, hl, hall, fun hok h4 ht' r H1 hr1 s1 x1 => ?_, fun hbad H' s1 => ⟨?_, ?_, ?_⟩⟩
  rotate_left
  · refine ⟨_, rfl, fun σ' hσ => ⟨true, T.i_NoOctets_WoodError, ?_⟩⟩
    rw [if_pos rfl]
    intro ea hea
    exact ⟨(by show 1 ≤ sizeLine; decide), upd_same, qE (fun g => hbad ⟨g.2.1, g.2.2.1, g.2.2.2.1⟩) _ (s1.trans (same_new hea _))⟩
  · refine ⟨_, rfl, fun σ' hσ => ⟨true, T.i_TooMany_WoodError, ?_⟩⟩
    rw [if_pos rfl]
    intro ea hea
    exact ⟨(by show 1 ≤ sizeLine; decide), upd_same, qE (fun g => hbad ⟨g.2.1, g.2.2.1, g.2.2.2.1⟩) _ (s1.trans (same_new hea _))⟩
  · refine ⟨_, rfl, fun σ' hσ => ⟨true, T.i_NoTree_WoodError, ?_⟩⟩
    rw [if_pos rfl]
    intro ea hea
    exact ⟨(by show 1 ≤ sizeLine; decide), upd_same, qE (fun g => hbad ⟨g.2.1, g.2.2.1, g.2.2.2.1⟩) _ (s1.trans (same_new hea _))⟩
  obtain ⟨hg, eb⟩ := dsO_good ht'
  have hbl := brk_len hg
  rw [eb] at hbl
  refine ⟨rfl, _, rfl, r, dsO os, rfl, x1, by omega, hg, fun r2 H2 lows hr2 s2 hlo x2 => ?_⟩
  rw [eb] at hlo x2
  refine ⟨_, rfl, _, rfl, .inl ⟨r2, p, _, _, rfl, rfl, SqL.of x2, SqL.of (s2 _ _ (s1 _ _ hp)), ?_⟩⟩
  by_cases hw : treeO (toldB os) lows = os
  · rw [decide_eq_true hw]
    exact ⟨_, rfl, iteF ⟨_, rfl, q ⟨hall, hok, h4, ht', lows, hlo, hw⟩ r H2 hr1 (s1.trans s2) (s2 _ _ x1)⟩⟩
  · rw [decide_eq_false hw]
    refine ⟨_, rfl, iteT ⟨(by show 1 ≤ sizeLine; decide), qE (fun g => ?_) _ (s1.trans s2)⟩⟩
    obtain ⟨lows2, hlo2, e2⟩ := g.2.2.2.2
    rw [hlo2.uniq hlo] at e2
    exact hw e2
def sp_read_tree (cN : Addr) : Sp := fun vs H Q E => ∃ (p : Addr) (os : List Int), vs = [.ref p] ∧ H p = some (.lst (os.map V.int)) ∧ os.length ≤ 2000 ∧
  (GoodT os → ∀ r H', H r = none → Same H H' → H' r = some (.lst ((dsO os).map V.int)) → Q (.ref r) H') ∧ (¬ GoodT os → ∀ H', Same H H' → E (.ref cN) none H')
theorem ok_read_tree (T : Tx K mg a) : FnOk P w K mg base (CX1 P w) 10 a.f_read_tree a.fd_read_tree ["octets"] (sp_read_tree a.c_NoOctets) := by
  refine T.D_read_tree.F.ok1 sc_read_tree (fun vs H Q E h => ?_) (fun cdv A outer s H vs Q E hr h => ?_)
  · obtain ⟨p, os, rfl, _⟩ := h
    rfl
  obtain ⟨p, os, rfl, h⟩ := h
  refine ⟨_, (pss_one (ps_ret (pe_cD T.D_read_as (ok_read_as T) (by decide) hr pass1 rfl (pa_cons (pv 0) (pa_cons (pe_glob (v := .ref a.f_told_depths) rfl T.D_told_depths.m rfl) (pa_cons (pe_glob (v := .ref a.f_tree_octets) rfl T.D_tree_octets.m rfl) pa_nil)))))), ?_⟩
  exact ⟨_, rfl, p, os, rfl, h⟩
def sp_opened (cN Pl : Addr) : Sp := fun vs H Q E => ∃ (p : Addr) (os : List Int), vs = [.ref p] ∧ H p = some (.lst (os.map V.int)) ∧ os.length ≤ 2000 ∧ TabAt H Pl (posOf i_look_of) T_look.qual ∧
  (GoodT os → ∀ r t ah nd bl g lows' S xs cs H', H bl = none → SameT Pl H H' → TabAt H' Pl (posOf i_look_of) T_look.qual → H' r = some (.tup [.ref t, .ref g]) → KB H' t ah nd bl (toldB os) lows' S xs → CloAt H' g T_look cs [.ref bl] → Q (.ref r) H') ∧
  (¬ GoodT os → ∀ H', Same H H' → E (.ref cN) none H')
theorem ok_opened_tree (T : Tx K mg a) (B : Bs mg base a) : FnOk P w K mg base (CX1 P w) 11 a.f_opened_tree a.fd_opened_tree ["octets"] (sp_opened a.c_NoOctets a.tP_look_of) := by
  refine T.D_opened_tree.F.ok1 sc_opened_tree (fun vs H Q E h => ?_) (fun cdv A outer s H vs Q E hr h => ?_)
  · obtain ⟨p, os, rfl, _⟩ := h
    rfl
  obtain ⟨p, os, rfl, hp, hl, hT, q, qE⟩ := h
  refine ⟨_, (pss_cons (ps_set (i := 1) sc_opened_tree.nd rfl (Or.inl rfl) (pe_cD T.D_kept_tree (ok_kept_tree T) (by decide) hr pass0 rfl (pa_cons (pe_cD T.D_read_tree (ok_read_tree T) (by decide) hr pass1 rfl (pa_cons (pv 0) pa_nil)) pa_nil)))
    (pss_one (ps_ret (pe_tup (pa_cons (pe_ix ix_tup (pv 1) pe_int (fun _ _ => rfl)) (pa_cons (pe_cD T.D_look_of (ok_look_of T B) (by decide) hr pass0 rfl (pa_cons (pe_ix ix_tup (pv 1) pe_int (fun _ _ => rfl)) pa_nil)) pa_nil)))))), ?_⟩
  refine ⟨_, rfl, p, os, rfl, hp, hl, fun hgt r1 H1 hr1 s1 x1 => ?_, fun hbad H' s1 => qE hbad H' s1⟩
  obtain ⟨hg, eb⟩ := dsO_good hgt.2.2.2.1
  refine ⟨r1, dsO os, rfl, x1, hgt.dlen, hg, fun kr t ah nd bl lows' S xs H2 hbl s2 xkr kb => ?_⟩
  rw [eb] at kb
  have s12 := s1.trans s2
  have hT2 := TabAt.same hT s12
  refine ⟨_, rfl, kr, _, _, _, rfl, rfl, SqT.of xkr, rfl, _, rfl, kr, _, _, _, rfl, rfl, SqT.of xkr, rfl, bl, _, rfl, SqL.of kb.bls, hT2, fun g rb H3 cs nf nr b3 hT3 cg xrb => ?_⟩
  refine ⟨(by show 2 ≤ sizeLine; decide), fun r hr' => ?_⟩
  have s4 := same_new hr' (.tup [.ref t, .ref g])
  have k3 : ∀ b o, H2 b = some o → (∀ ps, o ≠ .tbl ps) → upd H3 r (.tup [.ref t, .ref g]) b = some o := fun b o e n => s4 _ _ (b3 b o e (TabAt.ne hT2 e n))
  exact q hgt r t ah nd rb g lows' S xs cs _ (s12.free nr) (fun b o e n => s4 _ _ (b3 b o (s12 _ _ e) n)) (TabAt.same hT3 s4) upd_same ⟨⟨k3 _ _ kb.tab.tup nofun, k3 _ _ kb.tab.ahs nofun, kb.tab.few⟩, k3 _ _ kb.nds nofun, s4 _ _ xrb, kb.low, kb.sz, kb.heap⟩ (cg.same fun b o e => s4 _ _ e)
def sp_cell_at (K : PySem.W.Frag) : Sp := fun vs H Q _ => ∃ (p : Addr) (zs : List Int) (k : Nat), vs = [.ref p, .int (k : Int)] ∧ SqL K H p (zs.map V.int) ∧ Q (.int ((zs[k]?).getD 0)) H
theorem ok_law_cell_at (T : Tx K mg a) : FnOk P w K mg base CX0 1 a.f_law_cell_at a.fd_law_cell_at ["_law_script", "_law_k"] (sp_cell_at K) := by
  refine T.D_law_cell_at.F.ok sc_law_cell_at (fun vs H Q E h => ?_) (fun cdv A outer s H vs Q E hr h => ?_)
  · obtain ⟨p, zs, k, rfl, _⟩ := h
    rfl
  obtain ⟨p, zs, k, rfl, hS, q⟩ := h
  refine ⟨_, (pss_cons (ps_if (pt_cmpR op_lt (pv 1) (pe_callB call_len_seq rfl T.b_len Tw.bt_len (pa_cons (pv 0) pa_nil)) (nomark _)) (pss_one (ps_ret (pe_ix ix_list (pv 0) (pv 1) (fun _ _ => rfl)))) pss_nil)
    (pss_one (ps_ret pe_int))), ?_⟩
  refine ⟨_, rfl, _, rfl, p, _, rfl, .inl hS, _, _, rfl, rfl, _, rfl, ite2 (fun c => ?_) fun c => ?_⟩
  · have c := of_decide_eq_true c
    rw [List.length_map] at c
    have hk : zs[k]? = some zs[k] := List.getElem?_eq_getElem (by omega)
    rw [hk] at q
    exact ⟨_, rfl, _, rfl, p, _, _, _, rfl, rfl, hS, atI_int hk, q⟩
  · have c : ¬ (k : Int) < ((zs.map V.int).length : Int) := fun z => c (decide_eq_true z)
    rw [List.length_map] at c
    rw [List.getElem?_eq_none (by omega)] at q
    exact q

def BitsTo (H : Hp) (rb : Addr) (la : Int) (n : Nat) : Prop := ∃ bs : List Int, H rb = some (.lst (bs.map V.int)) ∧ IsBits bs ∧ (bs.length : Int) + la + 1 = 2 * (n : Int)
def sp_law_bits (K : PySem.W.Frag) : Sp := fun vs H Q _ => ∃ (p : Addr) (zs : List Int), vs = [.ref p] ∧ SqL K H p (zs.map V.int) ∧ zs.length ≤ 63 ∧ ∀ (r : Addr) (H' : Hp) (ns : List Int), H r = none → Same H H' → H' r = some (.lst (ns.map V.int)) → IsBits ns → ns.length ≤ 600 → 2 ≤ ns.length → Q (.ref r) H'
theorem ok_law_bits (T : Tx K mg a) : FnOk P w K mg base CX0 1 a.f_law_bits a.fd_law_bits ["_law_script"] (sp_law_bits K) := by
  refine T.D_law_bits.F.ok sc_law_bits (fun vs H Q E h => ?_) (fun cdv A outer s H vs Q E hr h => ?_)
  · obtain ⟨p, zs, rfl, _⟩ := h
    rfl
  obtain ⟨p, zs, rfl, hS, hl, q⟩ := h
  refine ⟨_, (pss_cons (ps_set (i := 1) sc_law_bits.nd rfl (Or.inl rfl) (pe_lst (pa_cons pe_int pa_nil)))
    (pss_cons (ps_set (i := 2) sc_law_bits.nd rfl (Or.inl rfl) (pe_lst (pa_cons pe_int pa_nil)))
    (pss_cons (ps_for PassesOwn.never rfl (pi_list (pe_slice sl_list (pv 0) po_none (po_some pe_int))) (pg_name (i := 3) sc_law_bits.nd rfl (Or.inl rfl)) (pss_cons (ps_set (i := 4) sc_law_bits.nd rfl (Or.inl rfl) (pe_op op_mod (pe_op op_mul (pv 3) pe_int) pe_int))
    (pss_cons (ps_set (i := 5) sc_law_bits.nd rfl (Or.inl rfl) (pe_op op_add pe_int (pe_op op_mod (pe_op op_fdiv (pv 4) pe_int) pe_int)))
    (pss_cons (ps_if (pt_cmpR op_eq (pe_op op_mod (pe_op op_fdiv (pv 4) pe_int) pe_int) pe_int (nomark _)) (pss_one (ps_set (i := 5) sc_law_bits.nd rfl (Or.inl rfl) (pe_op op_add pe_int (pe_op op_mod (pe_op op_fdiv (pv 4) pe_int) pe_int)))) pss_nil)
    (pss_cons (ps_set (i := 6) sc_law_bits.nd rfl (Or.inl rfl) (pe_op op_mod (pe_op op_fdiv (pv 4) pe_int) (pe_op op_add (pe_ix ix_list (pv 2) (pe_un un_neg pe_int) (fun _ _ => rfl)) pe_int)))
    (pss_one (ps_for PassesOwn.never rfl (pi_range1 rfl T.b_range (pa_cons (pe_callB (call_min2 rfl) rfl T.b_min Tw.bt_min (pa_cons (pv 5) (pa_cons (pe_op op_sub pe_int (pe_callB call_len_seq rfl T.b_len Tw.bt_len (pa_cons (pv 2) pa_nil))) pa_nil))) pa_nil)) (pg_name (i := 7) sc_law_bits.nd rfl (Or.inl rfl)) (pss_cons (ps_set (i := 8) sc_law_bits.nd rfl (Or.inl rfl) (pe_op op_add (pv 6) pe_int))
    (pss_cons (ps_if (pt_cmpR op_eq (pe_op op_mod (pv 4) pe_int) pe_int (nomark _)) (pss_one (ps_set (i := 8) sc_law_bits.nd rfl (Or.inl rfl) (pe_op op_add (pe_op op_add (pv 6) pe_int) (pv 7)))) pss_nil)
    (pss_cons (ps_if (pt_cmpR op_eq (pe_op op_mod (pv 4) pe_int) pe_int (nomark _)) (pss_one (ps_set (i := 8) sc_law_bits.nd rfl (Or.inl rfl) (pe_op op_add (pe_op op_add (pv 6) pe_int) (pe_op op_mod (pv 7) pe_int)))) pss_nil)
    (pss_cons (ps_if (pt_cmpR op_eq (pe_op op_mod (pv 4) pe_int) pe_int (nomark _)) (pss_one (ps_set (i := 8) sc_law_bits.nd rfl (Or.inl rfl) (pe_op op_add pe_int (pe_op op_mod (pe_op op_mod (pe_op op_mul (pe_op op_mul (pv 4) (pe_op op_add (pe_op op_mul pe_int (pv 7)) pe_int)) pe_int) pe_int) (pe_op op_add (pe_ix ix_list (pv 2) (pe_un un_neg pe_int) (fun _ _ => rfl)) pe_int))))) pss_nil)
    (pss_cons (ps_expr (pe_bm PySem.F.plainAttrs_list PySem.F.slot_list_extend PySem.F.type_list_extend mt_extend (pv 1) (pa_cons (pe_op op_rep (pe_lst (pa_cons pe_int pa_nil)) (pe_op op_sub (pe_op op_add (pe_ix ix_list (pv 2) (pe_un un_neg pe_int) (fun _ _ => rfl)) pe_int) (pv 8))) pa_nil)))
    (pss_cons (ps_expr (pe_bm PySem.F.plainAttrs_list PySem.F.slot_list_append PySem.F.type_list_append mt_append (pv 1) (pa_cons pe_int pa_nil)))
    (pss_one (ps_expr (pe_bm PySem.F.plainAttrs_list PySem.F.slot_list_append PySem.F.type_list_append mt_append (pv 2) (pa_cons (pv 8) pa_nil)))))))))))))))))
    (pss_one (ps_ret (pe_op op_cat (pv 1) (pe_op op_rep (pe_lst (pa_cons pe_int pa_nil)) (pe_op op_add (pe_ix ix_list (pv 2) (pe_un un_neg pe_int) (fun _ _ => rfl)) pe_int)))))))), ?_⟩
  refine ⟨(by show 1 ≤ sizeLine; decide), fun rb hrb => ?_⟩
  refine ⟨(by show 1 ≤ sizeLine; decide), fun r hr2 => ?_⟩
  have s0 := same_new hrb (.lst [.int 1])
  have hr' : H r = none := s0.free hr2
  have nrb : rb ≠ r := ne_of_none upd_same hr2
  refine ⟨_, rfl, _, rfl, p, _, rfl, (s0.trans (same_new hr2 _)).seq hS, fun c hc => ⟨c, rfl, ⟨_, SqL.of upd_same⟩, ?_⟩⟩
  have ez : cutV (zs.map V.int) none (some 63) = zs.map V.int := by
    rw [show (63 : Int) = ((63 : Nat) : Int) from rfl, cut_to, List.take_of_length_le hl]
  rw [ez] at *
  have ne : r ≠ c := ne_of_none upd_same hc
  have nbc : rb ≠ c := ne_of_none (same_new hr2 _ _ _ upd_same) hc
  refine for_list (xs := zs.map V.int) (fun i σ H' => (∃ (k2 k4 k5 k6 k7 k8 : Option V), σ = [some (.ref p), some (.ref rb), some (.ref r), k2, k4, k5, k6, k7, k8]) ∧ Same H H' ∧ H' c = some (.lst (zs.map V.int)) ∧ ∃ (es : List Int) (la : Int), H' r = some (.lst ((es ++ [la]).map V.int)) ∧ GoodD (es ++ [la]) ∧ 0 ≤ la ∧ es.length + 1 ≤ 300 ∧ BitsTo H' rb la (es.length + 1)) ?_ ?_ ?_ ?_
  · refine ⟨⟨none, none, none, none, none, none, rfl⟩, s0.trans ((same_new hr2 _).trans (same_new hc _)), upd_same, [], 0, ?_, GoodD.root, by decide, by decide, [1], ?_, fun x hx => .inr (List.mem_singleton.mp hx), by decide⟩
    · rw [upd_ne ne, upd_same]
      rfl
    · rw [upd_ne nbc, upd_ne nrb, upd_same]
      rfl
  · rintro i σ H' _ ⟨_, _, h, _⟩
    exact SqL.of h
  · rintro i x σ H' hx ⟨⟨k2, k4, k5, k6, k7, k8, rfl⟩, sm, hc1, es, la, hr1, hg, hla0, hn, hB⟩
    obtain ⟨z, hz, rfl⟩ := int_at hx
    have hla : atI ((es ++ [la]).map V.int) (-1) = some (.int la) := by
      rw [List.map_append]
      exact atI_last _ _
    refine ⟨_, rfl, _, _, rfl, rfl, .inr ⟨by decide, by decide⟩, _, _, rfl, rfl, (by show (0 : Int) < 2147483647; decide), ?_⟩
    refine ⟨_, rfl, _, _, rfl, rfl, ⟨by decide, by decide⟩, _, _, rfl, rfl, (by show (0 : Int) < 6; decide), _, _, rfl, rfl, ?_⟩
    refine ⟨_, rfl, _, _, rfl, rfl, ⟨by decide, by decide⟩, _, _, rfl, rfl, (by show (0 : Int) < 8; decide), rfl, _, rfl, ?_⟩
    refine st_way (fun σ H2 => H2 = H' ∧ ∃ mn : Int, σ = [some (.ref p), some (.ref rb), some (.ref r), some (.int z), some (.int (z * 48271 % 2147483647)), some (.int mn), k6, k7, k8] ∧ 1 ≤ mn ∧ mn ≤ 40) ⟨rfl, _, rfl, by omega, by omega⟩ ?_ (fun _ m => ?_)
    rotate_left
    · refine ⟨_, rfl, _, _, rfl, rfl, ⟨by decide, by decide⟩, _, _, rfl, rfl, (by show (0 : Int) < 40; decide), _, _, rfl, rfl, ?_⟩
      exact m _ _ ⟨rfl, 1 + z * 48271 % 2147483647 / 32 % 40, rfl, by omega, by omega⟩
    rintro σ2 H2 ⟨rfl, mn, rfl, hm0, hm1⟩
    refine ⟨_, rfl, _, _, rfl, rfl, ⟨by decide, by decide⟩, _, rfl, _, rfl, r, _, _, _, rfl, rfl, SqL.of hr1, hla, _, _, rfl, rfl, _, _, rfl, rfl, (by show (0 : Int) < la + 1; omega), ?_⟩
    have b0 := Int.emod_nonneg (z * 48271 % 2147483647 / 1280) (show la + 1 ≠ 0 by omega)
    have b1 := Int.emod_lt_of_pos (z * 48271 % 2147483647 / 1280) (show (0 : Int) < la + 1 by omega)
    have hlen : ((es ++ [la]).map V.int).length = es.length + 1 := by
      rw [List.length_map, List.length_append]
      rfl
    refine ⟨_, rfl, _, rfl, r, _, rfl, .inl (SqL.of hr1), _, _, rfl, rfl, _, _, rfl, _, rfl, ?_, ?_, ?_⟩
    · rw [hlen]
      split <;> omega
    · rw [hlen]
      split <;> omega
    have hM : (if (300 : Int) - (((es ++ [la]).map V.int).length : Int) < mn then (300 : Int) - (((es ++ [la]).map V.int).length : Int) else mn).toNat + es.length + 1 ≤ 300 := by
      rw [hlen]
      split <;> omega
    refine for_range (fun j σ H3 => (∃ (up : Int) (k7 k8 : Option V), σ = [some (.ref p), some (.ref rb), some (.ref r), some (.int z), some (.int (z * 48271 % 2147483647)), some (.int mn), some (.int up), k7, k8] ∧ 0 ≤ up ∧ Same H H3 ∧ H3 c = some (.lst (zs.map V.int)) ∧ ∃ (fs : List Int) (lb : Int), H3 r = some (.lst ((fs ++ [lb]).map V.int)) ∧ GoodD (fs ++ [lb]) ∧ 0 ≤ lb ∧ fs.length = es.length + j ∧ (z * 48271 % 2147483647 % 4 ≠ 3 → up ≤ lb) ∧ (z * 48271 % 2147483647 % 4 = 1 → up + (j : Int) ≤ lb) ∧ (z * 48271 % 2147483647 % 4 = 2 → 1 ≤ j → up + 1 ≤ lb) ∧ BitsTo H3 rb lb (fs.length + 1))) ?_ ?_ ?_
    · exact ⟨_, _, _, rfl, b0, sm, hc1, es, la, hr1, hg, hla0, rfl, fun _ => by omega, fun _ => by omega, fun _ z => by omega, hB⟩
    · rintro j σ H3 hj ⟨up, k7, k8, rfl, hu0, sm3, hc3, fs, lb, hr3, hg3, hlb0, hfl, g0, g1, g2, hB3⟩
      have hj' : j + es.length + 1 < 300 := by omega
      have hlb : atI ((fs ++ [lb]).map V.int) (-1) = some (.int lb) := by
        rw [List.map_append]
        exact atI_last _ _
      refine ⟨_, rfl, _, _, rfl, rfl, ?_⟩
      refine ⟨_, rfl, _, _, rfl, rfl, (by show (0 : Int) < 4; decide), rfl, _, rfl, ?_⟩
      refine st_wayN (fun σ H4 => H4 = H3 ∧ ∃ dp : Int, σ = [some (.ref p), some (.ref rb), some (.ref r), some (.int z), some (.int (z * 48271 % 2147483647)), some (.int mn), some (.int up), some (.int (0 + (j : Int))), some (.int dp)] ∧ ((z * 48271 % 2147483647 % 4 = 1 ∧ dp = up + 1 + (j : Int)) ∨ (z * 48271 % 2147483647 % 4 ≠ 1 ∧ dp = up + 1))) (fun n => ⟨rfl, _, rfl, .inr ⟨fun e => n (decide_eq_true (congrArg V.int e)), rfl⟩⟩) ?_ (fun e m => ?_)
      rotate_left
      · have e : V.int (z * 48271 % 2147483647 % 4) = V.int 1 := of_decide_eq_true e
        injection e with e
        exact ⟨_, rfl, _, _, rfl, rfl, _, rfl, _, _, rfl, rfl, m _ _ ⟨rfl, _, rfl, .inl ⟨e, by omega⟩⟩⟩
      rintro σ4 H4 ⟨rfl, dp, rfl, hdp⟩
      refine ⟨_, rfl, _, _, rfl, rfl, (by show (0 : Int) < 4; decide), rfl, _, rfl, ?_⟩
      refine st_wayN (fun σ H5 => H5 = H4 ∧ ∃ dp : Int, σ = [some (.ref p), some (.ref rb), some (.ref r), some (.int z), some (.int (z * 48271 % 2147483647)), some (.int mn), some (.int up), some (.int (0 + (j : Int))), some (.int dp)] ∧ ((z * 48271 % 2147483647 % 4 = 1 ∧ dp = up + 1 + (j : Int)) ∨ (z * 48271 % 2147483647 % 4 = 2 ∧ dp = up + 1 + (j : Int) % 2) ∨ (z * 48271 % 2147483647 % 4 ≠ 1 ∧ z * 48271 % 2147483647 % 4 ≠ 2 ∧ dp = up + 1))) (fun n => ⟨rfl, dp, rfl, ?_⟩) ?_ (fun e m => ?_)
      · have n2 : z * 48271 % 2147483647 % 4 ≠ 2 := fun e => n (decide_eq_true (congrArg V.int e))
        omega
      rotate_left
      · have e : V.int (z * 48271 % 2147483647 % 4) = V.int 2 := of_decide_eq_true e
        injection e with e
        exact ⟨_, rfl, _, _, rfl, rfl, _, rfl, _, _, rfl, rfl, (by show (0 : Int) < 2; decide), _, _, rfl, rfl, m _ _ ⟨rfl, _, rfl, .inr (.inl ⟨e, by rw [Int.zero_add]⟩)⟩⟩
      rintro σ5 H5 ⟨rfl, dp2, rfl, hdp2⟩
      refine ⟨_, rfl, _, _, rfl, rfl, (by show (0 : Int) < 4; decide), rfl, _, rfl, ?_⟩
      refine st_wayN (fun σ H6 => H6 = H5 ∧ ∃ dp : Int, σ = [some (.ref p), some (.ref rb), some (.ref r), some (.int z), some (.int (z * 48271 % 2147483647)), some (.int mn), some (.int up), some (.int (0 + (j : Int))), some (.int dp)] ∧ 1 ≤ dp ∧ dp ≤ lb + 1 ∧ (z * 48271 % 2147483647 % 4 ≠ 3 → up + 1 ≤ dp) ∧ (z * 48271 % 2147483647 % 4 = 1 → dp = up + 1 + (j : Int))) (fun n => ⟨rfl, dp2, rfl, ?_⟩) ?_ (fun e m => ?_)
      · have n3 : z * 48271 % 2147483647 % 4 ≠ 3 := fun e => n (decide_eq_true (congrArg V.int e))
        have := g0 n3
        have hj2 : j = 0 ∨ 1 ≤ j := by omega
        refine ⟨by omega, ?_, by omega, by omega⟩
        rcases hdp2 with ⟨e, rfl⟩ | ⟨e, rfl⟩ | ⟨_, _, rfl⟩
        · have := g1 e
          omega
        · rcases hj2 with rfl | h
          · omega
          · have := g2 e h
            omega
        · omega
      rotate_left
      · have e : V.int (z * 48271 % 2147483647 % 4) = V.int 3 := of_decide_eq_true e
        injection e with e
        have c0 := Int.emod_nonneg (z * 48271 % 2147483647 * (2 * (0 + (j : Int)) + 3) * 69621 % 2147483629) (show lb + 1 ≠ 0 by omega)
        have c1 := Int.emod_lt_of_pos (z * 48271 % 2147483647 * (2 * (0 + (j : Int)) + 3) * 69621 % 2147483629) (show (0 : Int) < lb + 1 by omega)
        refine ⟨_, rfl, _, rfl, _, _, rfl, rfl, .inl ⟨by decide, by decide⟩, _, _, rfl, rfl, _, _, rfl, rfl, .inr ⟨by omega, by omega⟩, _, _, rfl, rfl, .inr ⟨by decide, by decide⟩, _, _, rfl, rfl, (by show (0 : Int) < 2147483629; decide), _, rfl, _, rfl, r, _, _, _, rfl, rfl, SqL.of hr3, hlb, _, _, rfl, rfl, _, _, rfl, rfl, (by show (0 : Int) < lb + 1; omega), _, _, rfl, rfl, ?_⟩
        exact m _ _ ⟨rfl, 1 + z * 48271 % 2147483647 * (2 * (0 + (j : Int)) + 3) * 69621 % 2147483629 % (lb + 1), rfl, by omega, by omega, fun n => absurd e n, fun n => by omega⟩
      rintro σ6 H6 ⟨rfl, dp3, rfl, d1, d2, d3, d4⟩
      obtain ⟨bs, xb, hbb, hbl⟩ := hB3
      have hk0 : 0 ≤ lb + 1 - dp3 := by omega
      refine ⟨_, rfl, .inl ⟨rfl, _, SqL.of xb⟩, (by show 1 ≤ sizeLine; decide), fun l1 hl1 => ?_⟩
      have s1 := same_new hl1 (.lst [.int 0])
      refine ⟨_, rfl, _, rfl, r, _, _, _, rfl, rfl, SqL.of (s1 _ _ hr3), hlb, _, _, rfl, rfl, _, rfl, _, _, rfl, rfl, l1, _, _, rfl, rfl, upd_same, ?_, ?_, ?_, fun l2 hl2 => ?_⟩
      · omega
      · omega
      · rw [sizeLine_eq]
        show 1 * _ ≤ _
        omega
      rw [rep_one]
      have s2 := s1.trans (same_new hl2 (.lst ((List.replicate (lb + 1 - dp3).toNat (0 : Int)).map V.int)))
      have nb2 : rb ≠ l2 := ne_of_none (s1 _ _ xb) hl2
      have nr2 : r ≠ l2 := ne_of_none (s1 _ _ hr3) hl2
      refine ⟨rb, l2, _, _, rfl, rfl, s2 _ _ xb, upd_same, ?_, ?_⟩
      · rw [List.length_map, List.length_map, List.length_replicate, sizeLine_eq]
        omega
      have s3 := same_set (sm3.trans s2) hrb (.lst (bs.map V.int ++ (List.replicate (lb + 1 - dp3).toNat (0 : Int)).map V.int))
      have xr3 : upd (upd (upd H6 l1 (.lst [.int 0])) l2 (.lst ((List.replicate (lb + 1 - dp3).toNat (0 : Int)).map V.int))) rb (.lst (bs.map V.int ++ (List.replicate (lb + 1 - dp3).toNat (0 : Int)).map V.int)) r = some (.lst ((fs ++ [lb]).map V.int)) := by
        rw [upd_ne (Ne.symm nrb)]
        exact s2 _ _ hr3
      have xc3 : upd (upd (upd H6 l1 (.lst [.int 0])) l2 (.lst ((List.replicate (lb + 1 - dp3).toNat (0 : Int)).map V.int))) rb (.lst (bs.map V.int ++ (List.replicate (lb + 1 - dp3).toNat (0 : Int)).map V.int)) c = some (.lst (zs.map V.int)) := by
        rw [upd_ne (Ne.symm nbc)]
        exact s2 _ _ hc3
      have xb3 : upd (upd (upd H6 l1 (.lst [.int 0])) l2 (.lst ((List.replicate (lb + 1 - dp3).toNat (0 : Int)).map V.int))) rb (.lst (bs.map V.int ++ (List.replicate (lb + 1 - dp3).toNat (0 : Int)).map V.int)) rb = some (.lst ((bs ++ List.replicate (lb + 1 - dp3).toNat (0 : Int)).map V.int)) := by
        rw [upd_same, List.map_append]
      generalize upd (upd (upd H6 l1 (.lst [.int 0])) l2 (.lst ((List.replicate (lb + 1 - dp3).toNat (0 : Int)).map V.int))) rb (.lst (bs.map V.int ++ (List.replicate (lb + 1 - dp3).toNat (0 : Int)).map V.int)) = H7 at *
      have hll : (bs ++ List.replicate (lb + 1 - dp3).toNat (0 : Int)).length = bs.length + (lb + 1 - dp3).toNat := by rw [List.length_append, List.length_replicate]
      refine ⟨_, rfl, .inl ⟨rfl, _, SqL.of xb3⟩, rb, _, _, rfl, rfl, xb3, ?_, ?_⟩
      · rw [List.length_map, hll, sizeLine_eq]
        omega
      have s4 := same_set s3 hrb (.lst ((bs ++ List.replicate (lb + 1 - dp3).toNat (0 : Int)).map V.int ++ [.int 1]))
      have xr4 : upd H7 rb (.lst ((bs ++ List.replicate (lb + 1 - dp3).toNat (0 : Int)).map V.int ++ [.int 1])) r = some (.lst ((fs ++ [lb]).map V.int)) := by
        rw [upd_ne (Ne.symm nrb)]
        exact xr3
      refine ⟨_, rfl, .inl ⟨rfl, _, SqL.of xr4⟩, _, rfl, r, _, _, rfl, rfl, xr4, ?_, ?_⟩
      · rw [List.length_map, List.length_append, List.length_singleton, sizeLine_eq]
        omega
      refine ⟨up, _, _, rfl, hu0, same_set s4 hr' _, ?_, fs ++ [lb], dp3, ?_, hg3.snoc (by simp) d1 d2, by omega, ?_, fun n => ?_, fun n => ?_, fun n _ => ?_, (bs ++ List.replicate (lb + 1 - dp3).toNat (0 : Int)) ++ [1], ?_, ?_, ?_⟩
      · rw [upd_ne (Ne.symm ne), upd_ne (Ne.symm nbc)]
        exact xc3
      · rw [upd_same, List.map_append (l₂ := [dp3])]
        rfl
      · rw [List.length_append, List.length_singleton]
        omega
      · have := d3 n
        omega
      · have := d4 n
        omega
      · have := d3 (by omega)
        omega
      · rw [upd_ne nrb, upd_same, List.map_append (l₂ := [1])]
        rfl
      · exact isBits_append (isBits_append hbb (isBits_rep (.inl rfl) _)) fun x hx => .inr (List.mem_singleton.mp hx)
      · rw [List.length_append, hll, List.length_singleton, List.length_append, List.length_singleton]
        omega
    · rintro σ H3 ⟨up, k7, k8, rfl, hu0, sm3, hc3, fs, lb, hr3, hg3, hlb0, hfl, g0, g1, g2, hB3⟩
      exact ⟨⟨_, _, _, _, _, _, rfl⟩, sm3, hc3, fs, lb, hr3, hg3, hlb0, by omega, hB3⟩
  · rintro σ H' ⟨⟨k2, k4, k5, k6, k7, k8, rfl⟩, sm, hc1, es, la, hr1, hg, hla0, hn, bs, xb, hbb, hbl⟩
    have hla : atI ((es ++ [la]).map V.int) (-1) = some (.int la) := by
      rw [List.map_append]
      exact atI_last _ _
    refine ⟨_, rfl, (by show 1 ≤ sizeLine; decide), fun l1 hl1 => ?_⟩
    have s1 := same_new hl1 (.lst [.int 0])
    refine ⟨_, rfl, _, rfl, r, _, _, _, rfl, rfl, SqL.of (s1 _ _ hr1), hla, _, _, rfl, rfl, l1, _, _, rfl, rfl, upd_same, ?_, ?_, ?_, fun l2 hl2 => ?_⟩
    · omega
    · omega
    · rw [sizeLine_eq]
      show 1 * _ ≤ _
      omega
    rw [rep_one]
    have s2 := s1.trans (same_new hl2 (.lst ((List.replicate (la + 1).toNat (0 : Int)).map V.int)))
    refine ⟨rb, l2, _, _, rfl, rfl, s2 _ _ xb, upd_same, ?_, fun l3 hl3 => ?_⟩
    · rw [List.length_map, List.length_map, List.length_replicate, sizeLine_eq]
      omega
    have s3 := sm.trans s2
    have hll : (bs ++ List.replicate (la + 1).toNat (0 : Int)).length = bs.length + (la + 1).toNat := by rw [List.length_append, List.length_replicate]
    refine q l3 _ (bs ++ List.replicate (la + 1).toNat (0 : Int)) (s3.free hl3) (s3.trans (same_new hl3 _)) ?_ (isBits_append hbb (isBits_rep (.inl rfl) _)) ?_ ?_
    · rw [upd_same, List.map_append]
    · rw [hll]
      omega
    · rw [hll]
      omega
def sp_law_two : Sp := fun vs H Q _ => ∃ (x : Int), vs = [.int x] ∧ ∀ r, H r = none → Q (.ref r) (upd H r (.lst ((octs x 2).map V.int)))
theorem octs_two' (x : Int) : [x % 256, x / 256 % 256] = octs x 2 := by
  show _ = [x / 256 ^ 0 % 256, x / 256 ^ 1 % 256]
  rw [Int.pow_zero, Int.ediv_one, Int.pow_succ, Int.pow_zero, Int.one_mul]
theorem ok_law_two (T : Tx K mg a) : FnOk P w K mg base CX0 1 a.f_law_two a.fd_law_two ["_law_number"] sp_law_two := by
  refine T.D_law_two.F.ok sc_law_two (fun vs H Q E h => ?_) (fun cdv A outer s H vs Q E hr h => ?_)
  · obtain ⟨x, rfl, _⟩ := h
    rfl
  obtain ⟨x, rfl, q⟩ := h
  refine ⟨_, (pss_one (ps_ret (pe_lst (pa_cons (pe_op op_mod (pv 0) pe_int) (pa_cons (pe_op op_mod (pe_op op_fdiv (pv 0) pe_int) pe_int) pa_nil))))), ?_⟩
  refine ⟨_, rfl, _, _, rfl, rfl, (by show (0 : Int) < 256; decide), _, rfl, _, _, rfl, rfl, ⟨by decide, by decide⟩, _, _, rfl, rfl, (by show (0 : Int) < 256; decide), (by show 2 ≤ sizeLine; decide), fun r hr' => ?_⟩
  rw [← octs_two'] at q
  exact q r hr'
/-- the least heights told, none above 4096 -/
def LowsW (ns lows : List Int) : Prop := lows.length = many ns.length ∧ ∀ j m, lows[j]? = some m → LowTo ns 4096 j (wide ns.length j) m
def sp_written (K : PySem.W.Frag) : Sp := fun vs H Q _ => ∃ (p : Addr) (ns : List Int), vs = [.ref p] ∧ SqL K H p (ns.map V.int) ∧ IsBits ns ∧ ns.length ≤ 4200 ∧ ∀ r H', H r = none → Same H H' → ∀ lows, LowsW ns lows → H' r = some (.lst ((treeO ns lows).map V.int)) → Q (.ref r) H'
theorem ok_law_written (T : Tx K mg a) : FnOk P w K mg base CX0 2 a.f_law_written a.fd_law_written ["_law_bits_here"] (sp_written K) := by
  refine T.D_law_written.F.ok sc_law_written (fun vs H Q E h => ?_) (fun cdv A outer s H vs Q E hr h => ?_)
  · obtain ⟨p, ns, rfl, _⟩ := h
    rfl
  obtain ⟨rb, ns, rfl, hS, hb, hl, q⟩ := h
  refine ⟨_, (pss_cons (ps_set (i := 1) sc_law_written.nd rfl (Or.inl rfl) (pe_lst pa_nil))
    (pss_cons (ps_for PassesOwn.never rfl (pi_range8 rfl T.b_range (pa_cons pe_int (pa_cons (pe_callB call_len_seq rfl T.b_len Tw.bt_len (pa_cons (pv 0) pa_nil)) (pa_cons pe_int pa_nil)))) (pg_name (i := 2) sc_law_written.nd rfl (Or.inl rfl)) (pss_cons (ps_set (i := 3) sc_law_written.nd rfl (Or.inl rfl) pe_int)
    (pss_cons (ps_for PassesOwn.never rfl (pi_rev rfl T.b_reversed (pa_cons (pe_slice sl_list (pv 0) (po_some (pv 2)) (po_some (pe_op op_add (pv 2) pe_int))) pa_nil) Tw.bt_reversed) (pg_name (i := 4) sc_law_written.nd rfl (Or.inl rfl)) (pss_one (ps_set (i := 3) sc_law_written.nd rfl (Or.inl rfl) (pe_op op_add (pe_op op_mul pe_int (pv 3)) (pv 4)))))
    (pss_one (ps_expr (pe_bm PySem.F.plainAttrs_list PySem.F.slot_list_append PySem.F.type_list_append mt_append (pv 1) (pa_cons (pv 3) pa_nil)))))))
    (pss_cons (ps_while PassesOwn.never (pt_cmpR op_ne (pe_op op_mod (pe_callB call_len_seq rfl T.b_len Tw.bt_len (pa_cons (pv 1) pa_nil)) pe_int) pe_int (nomark _)) (pss_one (ps_expr (pe_bm PySem.F.plainAttrs_list PySem.F.slot_list_append PySem.F.type_list_append mt_append (pv 1) (pa_cons pe_int pa_nil)))))
    (pss_cons (ps_expr (pe_bm PySem.F.plainAttrs_list PySem.F.slot_list_extend PySem.F.type_list_extend mt_extend (pv 1) (pa_cons (pe_lst (pa_cons pe_int (pa_cons pe_int pa_nil))) pa_nil)))
    (pss_cons (ps_set (i := 5) sc_law_written.nd rfl (Or.inl rfl) pe_int)
    (pss_cons (ps_set (i := 6) sc_law_written.nd rfl (Or.inl rfl) (pe_lst pa_nil))
    (pss_cons (ps_for PassesOwn.never rfl (pi_range3 rfl T.b_range (pa_cons pe_int (pa_cons (pe_callB call_len_seq rfl T.b_len Tw.bt_len (pa_cons (pv 0) pa_nil)) (pa_cons pe_int pa_nil)))) (pg_name (i := 2) sc_law_written.nd rfl (Or.inl rfl)) (pss_cons (ps_set (i := 7) sc_law_written.nd rfl (Or.inl rfl) pe_int)
    (pss_cons (ps_set (i := 8) sc_law_written.nd rfl (Or.inl rfl) (pv 2))
    (pss_cons (ps_for PassesOwn.never rfl (pi_list (pe_slice sl_list (pv 0) (po_some (pv 2)) (po_some (pe_op op_add (pv 2) pe_int)))) (pg_name (i := 4) sc_law_written.nd rfl (Or.inl rfl)) (pss_cons (ps_set (i := 5) sc_law_written.nd rfl (Or.inl rfl) (pe_op op_add (pv 5) (pv 4)))
    (pss_cons (ps_set (i := 8) sc_law_written.nd rfl (Or.inl rfl) (pe_op op_add (pv 8) pe_int))
    (pss_one (ps_set (i := 7) sc_law_written.nd rfl (Or.inl rfl) (pe_callB (call_min2 rfl) rfl T.b_min Tw.bt_min (pa_cons (pv 7) (pa_cons (pe_op op_sub (pe_op op_mul pe_int (pv 5)) (pv 8)) pa_nil))))))))
    (pss_cons (ps_expr (pe_bm PySem.F.plainAttrs_list PySem.F.slot_list_extend PySem.F.type_list_extend mt_extend (pv 1) (pa_cons (pe_cD T.D_law_two (ok_law_two T) (by decide) hr pass0 rfl (pa_cons (pv 5) pa_nil)) pa_nil)))
    (pss_one (ps_expr (pe_bm PySem.F.plainAttrs_list PySem.F.slot_list_extend PySem.F.type_list_extend mt_extend (pv 6) (pa_cons (pe_cD T.D_law_two (ok_law_two T) (by decide) hr pass0 rfl (pa_cons (pv 7) pa_nil)) pa_nil)))))))))
    (pss_one (ps_ret (pe_op op_cat (pe_op op_cat (pe_op op_cat (pe_lst (pa_cons pe_int pa_nil)) (pe_cD T.D_law_two (ok_law_two T) (by decide) hr pass0 rfl (pa_cons (pe_callB call_len_seq rfl T.b_len Tw.bt_len (pa_cons (pv 0) pa_nil)) pa_nil))) (pv 1)) (pv 6))))))))))), ?_⟩
  have ern : (ns.map V.int).length = ns.length := List.length_map ..
  have hm : many ns.length ≤ 132 := by
    unfold many
    omega
  refine ⟨(by show 0 ≤ sizeLine; decide), fun r hr' => ?_⟩
  refine ⟨_, rfl, rb, _, rfl, .inl ((same_new hr' _).seq hS), (ns.map V.int).length, rfl, (by omega), ?_⟩
  rw [ern]
  refine for_step (n := (ns.length + 7) / 8) (fun i σ H' => (∃ k3 k4 k5, σ = [some (.ref rb), some (.ref r), k3, k4, k5, none, none, none, none]) ∧ Same H H' ∧ H' r = some (.lst (((List.range i).map (oct8 ns)).map V.int))) ⟨⟨none, none, none, rfl⟩, same_new hr' _, upd_same⟩ ?_ ?_
  · rintro i σ H' hi ⟨⟨k3, k4, k5, rfl⟩, sm, x⟩
    refine ⟨_, rfl, _, rfl, _, rfl, _, rfl, _, _, rfl, rfl, _, rfl, rb, _, rfl, sm.seq hS, fun c hc => ⟨c, _, rfl, SqL.of upd_same, ?_⟩⟩
    have ec : cutV (ns.map V.int) (some (0 + (i : Int) * 8)) (some (0 + (i : Int) * 8 + 8)) = ((ns.drop (8 * i)).take 8).map V.int := by
      rw [show (0 : Int) + (i : Int) * 8 = ((8 * i : Nat) : Int) from by omega, show ((8 * i : Nat) : Int) + 8 = ((8 * i + 8 : Nat) : Int) from by omega, cut_nat, Nat.add_sub_cancel_left]
    rw [ec]
    have ne : r ≠ c := ne_of_none x hc
    have hbs : IsBits ((ns.drop (8 * i)).take 8) := fun y hy => hb y (List.mem_of_mem_drop (List.mem_of_mem_take hy))
    generalize hg : (ns.drop (8 * i)).take 8 = gs at *
    refine for_rev (xs := gs.map V.int) (fun j σ H2 => (∃ k5, σ = [some (.ref rb), some (.ref r), some (.int (0 + (i : Int) * 8)), some (.int (blk (gs.drop (gs.length - j)))), k5, none, none, none, none]) ∧ Same H H2 ∧ H2 c = some (.lst (gs.map V.int)) ∧ H2 r = some (.lst (((List.range i).map (oct8 ns)).map V.int))) ?_ ?_ ?_ ?_
    · refine ⟨⟨k5, ?_⟩, sm.trans (same_new hc _), upd_same, by rw [upd_ne ne]; exact x⟩
      rw [Nat.sub_zero, List.drop_length]
      rfl
    · rintro j σ H2 _ ⟨_, _, h, _⟩
      exact SqL.of h
    · rintro j y σ H2 hj hy ⟨⟨k5, rfl⟩, sm2, xc, xr⟩
      obtain ⟨z, hz, rfl⟩ := int_at hy
      rw [List.length_map] at hj hz
      refine ⟨_, rfl, _, _, rfl, rfl, .inl ⟨by decide, by decide⟩, _, rfl, _, _, rfl, rfl, ⟨some (.int z), ?_⟩, sm2, xc, xr⟩
      have e : gs.drop (gs.length - (j + 1)) = z :: gs.drop (gs.length - j) := by
        have e1 : gs.length - (j + 1) = gs.length - 1 - j := by omega
        have e2 : gs.length - j = gs.length - 1 - j + 1 := by omega
        rw [e1, e2, List.drop_eq_getElem_cons (by omega)]
        congr 1
        have := List.getElem?_eq_some_iff.mp hz
        exact this.2
      rw [e]
      rfl
    · rintro σ H2 ⟨⟨k5, rfl⟩, sm2, xc, xr⟩
      rw [List.length_map, Nat.sub_self, List.drop_zero]
      refine ⟨_, rfl, .inl ⟨rfl, _, SqL.of xr⟩, _, rfl, r, _, _, rfl, rfl, xr, ?_, ⟨_, _, _, rfl⟩, same_set sm2 hr' _, ?_⟩
      · rw [List.length_map, List.length_map, List.length_range, sizeLine_eq]
        omega
      · rw [upd_same, List.range_succ, List.map_append, List.map_append]
        show some (HO.lst (_ ++ [V.int (blk gs)])) = some (HO.lst (_ ++ [V.int (oct8 ns i)]))
        unfold oct8
        rw [hg]
  rintro σ HC ⟨⟨k3, k4, k5, rfl⟩, smC, xC⟩
  refine ⟨fun m σ H' => ∃ k : Nat, σ = [some (.ref rb), some (.ref r), k3, k4, k5, none, none, none, none] ∧ Same H H' ∧ H' r = some (.lst (((List.range k).map (oct8 ns)).map V.int)) ∧ (ns.length + 7) / 8 ≤ k ∧ k ≤ 4 * many ns.length ∧ m = 4 * many ns.length - k, ⟨_, (ns.length + 7) / 8, rfl, smC, xC, Nat.le_refl _, by unfold many; omega, rfl⟩, ?_⟩
  rintro m σ H' ⟨k, rfl, sm, x, hk0, hk1, rfl⟩
  have elk : (((List.range k).map (oct8 ns)).map V.int).length = k := by
    rw [List.length_map, List.length_map, List.length_range]
  refine ⟨_, rfl, r, _, rfl, .inl (SqL.of x), _, _, rfl, rfl, (by show (0 : Int) < 4; decide), rfl, _, rfl, ?_⟩
  rw [elk]
  by_cases hk : k % 4 = 0
  rotate_left
  · refine ite2 (fun _ => ?_) fun z => absurd ?_ z
    rotate_left
    · have : ¬ (k : Int) % 4 = 0 := by omega
      rw [dec_int]
      simp [this]
    refine ⟨_, fun σ' H2 z => z, _, rfl, .inl ⟨rfl, _, SqL.of x⟩, r, _, _, rfl, rfl, x, ?_, 4 * many ns.length - (k + 1), by omega, k + 1, rfl, same_set sm hr' _, ?_, by omega, by omega, rfl⟩
    · rw [elk, sizeLine_eq]
      omega
    · rw [upd_same, List.range_succ, List.map_append, List.map_append]
      show some (HO.lst (_ ++ [V.int 0])) = some (HO.lst (_ ++ [V.int (oct8 ns k)]))
      rw [oct8_far (by omega)]
  have ek : k = 4 * many ns.length := by
    unfold many at *
    omega
  subst ek
  refine iteNS (congrArg V.int (by omega)) ?_
  refine ⟨_, rfl, .inl ⟨rfl, _, SqL.of x⟩, (by show 2 ≤ sizeLine; decide), fun z0 hz0 => ?_⟩
  have nz : r ≠ z0 := ne_of_none x hz0
  refine ⟨r, z0, _, _, rfl, rfl, by rw [upd_ne nz]; exact x, upd_same, ?_, ?_⟩
  · rw [elk, sizeLine_eq]
    show _ + 2 ≤ _
    omega
  have s2 : Same H (upd (upd H' z0 (.lst [.int 0, .int 0])) r (.lst (((List.range (4 * many ns.length)).map (oct8 ns)).map V.int ++ [.int 0, .int 0]))) := same_set (sm.trans (same_new hz0 _)) hr' _
  have x2 : (upd (upd H' z0 (.lst [.int 0, .int 0])) r (.lst (((List.range (4 * many ns.length)).map (oct8 ns)).map V.int ++ [.int 0, .int 0]))) r = some (.lst ((LO ns 0).map V.int)) := by
    rw [upd_same]
    unfold LO
    rw [List.map_append]
    rfl
  generalize upd (upd H' z0 (.lst [.int 0, .int 0])) r (.lst (((List.range (4 * many ns.length)).map (oct8 ns)).map V.int ++ [.int 0, .int 0])) = H2 at *
  refine ⟨(by show 0 ≤ sizeLine; decide), fun lw hlw => ?_⟩
  have s3 := s2.trans (same_new hlw (.lst []))
  have x3 := same_new hlw (.lst []) _ _ x2
  have nrl : r ≠ lw := ne_of_none x2 hlw
  have hlw0 := s2.free hlw
  refine ⟨_, rfl, rb, _, rfl, .inl (s3.seq hS), (ns.map V.int).length, rfl, (by omega), ?_⟩
  rw [ern]
  refine for_step (n := (ns.length + 31) / 32) (fun i σ H' => (∃ k4 k5 k6 k9 k10, σ = [some (.ref rb), some (.ref r), k4, k5, k6, some (.int (ns.take (32 * i)).sum), some (.ref lw), k9, k10]) ∧ Same H H' ∧ H' r = some (.lst ((LO ns i).map V.int)) ∧ ∃ lows : List Int, H' lw = some (.lst ((lows.flatMap fun x => octs x 2).map V.int)) ∧ lows.length = i ∧ ∀ j m, lows[j]? = some m → LowTo ns 4096 j (wide ns.length j) m) ⟨⟨k3, k4, k5, none, none, rfl⟩, s3, x3, [], upd_same, rfl, fun j m e => by cases e⟩ ?_ ?_
  · rintro i σ H' hi ⟨⟨k4, k5, k6, k9, k10, rfl⟩, sm, x, lows, xl, hll, hlo⟩
    refine ⟨_, rfl, _, rfl, _, rfl, _, rfl, _, rfl, _, _, rfl, rfl, _, rfl, rb, _, rfl, sm.seq hS, fun c hc => ⟨c, rfl, ⟨_, SqL.of upd_same⟩, ?_⟩⟩
    have ec : cutV (ns.map V.int) (some (0 + (i : Int) * 32)) (some (0 + (i : Int) * 32 + 32)) = ((ns.drop (32 * i)).take 32).map V.int := by
      rw [show (0 : Int) + (i : Int) * 32 = ((32 * i : Nat) : Int) from by omega, show ((32 * i : Nat) : Int) + 32 = ((32 * i + 32 : Nat) : Int) from by omega, cut_nat, Nat.add_sub_cancel_left]
    rw [ec]
    have sc := same_new hc (.lst (((ns.drop (32 * i)).take 32).map V.int))
    have hgl : ((ns.drop (32 * i)).take 32).length = wide ns.length i := by
      rw [List.length_take, List.length_drop]
      rfl
    have hgg : ∀ j b, ((ns.drop (32 * i)).take 32)[j]? = some b → ns[32 * i + j]? = some b := fun j b e => by
      have hj := (List.getElem?_eq_some_iff.mp e).1
      rw [List.length_take] at hj
      rw [List.getElem?_take_of_lt (by omega), List.getElem?_drop] at e
      exact e
    generalize (ns.drop (32 * i)).take 32 = gs at *
    refine for_list (xs := gs.map V.int) (fun j σ H' => (∃ k6 m, σ = [some (.ref rb), some (.ref r), some (.int (0 + (i : Int) * 32)), k5, k6, some (.int (ns.take (32 * i + j)).sum), some (.ref lw), some (.int m), some (.int (0 + (i : Int) * 32 + (j : Int)))] ∧ LowTo ns 4096 i j m) ∧ Same H H' ∧ H' c = some (.lst (gs.map V.int)) ∧ H' r = some (.lst ((LO ns i).map V.int)) ∧ H' lw = some (.lst ((lows.flatMap fun x => octs x 2).map V.int))) ?_ ?_ ?_ ?_
    · refine ⟨⟨k6, 4096, ?_, LowTo.zero ns 4096 i⟩, sm.trans sc, upd_same, sc _ _ x, sc _ _ xl⟩
      rw [show (0 : Int) + (i : Int) * 32 + ((0 : Nat) : Int) = 0 + (i : Int) * 32 from by omega]
      rfl
    · rintro j σ H2 _ ⟨_, _, h, _⟩
      exact SqL.of h
    · rintro j y σ H2 hy ⟨⟨k6, m, rfl, hm2⟩, sm2, xc, xr, xw⟩
      obtain ⟨b, hb1, rfl⟩ := int_at hy
      have hnb := hgg j b hb1
      have es := sum_snoc hnb
      have eh : 2 * ((ns.take (32 * i + j)).sum + b) - (0 + (i : Int) * 32 + (j : Int) + 1) = ht ns (32 * i + j + 1) := by
        unfold ht
        rw [es]
        omega
      refine ⟨_, rfl, _, rfl, _, _, rfl, rfl, ?_⟩
      refine ⟨_, rfl, _, _, rfl, rfl, ?_⟩
      refine ⟨_, rfl, _, rfl, _, _, rfl, rfl, .inl ⟨by decide, by decide⟩, _, rfl, _, _, rfl, rfl, _, _, rfl, ?_⟩
      rw [eh]
      refine ⟨⟨some (.int b), _, ?_, hm2.step⟩, sm2, xc, xr, xw⟩
      rw [show 32 * i + (j + 1) = 32 * i + j + 1 from by omega, es, show (0 : Int) + (i : Int) * 32 + ((j + 1 : Nat) : Int) = 0 + (i : Int) * 32 + (j : Int) + 1 from by omega]
      rfl
    rintro σ H2 ⟨⟨k6, m, rfl, hm2⟩, sm2, xc, xr, xw⟩
    have hj : 32 * i < ns.length := by omega
    rw [List.length_map, hgl] at *
    have et : ns.take (32 * i + wide ns.length i) = ns.take (32 * (i + 1)) := by
      unfold wide
      rcases Nat.lt_or_ge (ns.length - 32 * i) 32 with h | h
      · rw [List.take_of_length_le (by omega), List.take_of_length_le (by omega)]
      · rw [Nat.min_eq_left h]
        rfl
    rw [et]
    refine ⟨_, rfl, .inl ⟨rfl, _, SqL.of xr⟩, _, rfl, _, rfl, fun t ht => ?_⟩
    have nt : r ≠ t := ne_of_none xr ht
    have s4 := sm2.trans (same_new ht (.lst ((octs (ns.take (32 * (i + 1))).sum 2).map V.int)))
    refine ⟨r, t, _, _, rfl, rfl, by rw [upd_ne nt]; exact xr, upd_same, ?_, ?_⟩
    · rw [List.length_map, List.length_map, LO_length, octs_length, sizeLine_eq]
      unfold many
      omega
    have s5 : Same H (upd (upd H2 t (.lst ((octs (ns.take (32 * (i + 1))).sum 2).map V.int))) r (.lst ((LO ns i).map V.int ++ (octs (ns.take (32 * (i + 1))).sum 2).map V.int))) := same_set s4 hr' _
    have x5 : (upd (upd H2 t (.lst ((octs (ns.take (32 * (i + 1))).sum 2).map V.int))) r (.lst ((LO ns i).map V.int ++ (octs (ns.take (32 * (i + 1))).sum 2).map V.int))) r = some (.lst ((LO ns (i + 1)).map V.int)) := by
      rw [upd_same, LO_succ, List.map_append]
    have xw5 : (upd (upd H2 t (.lst ((octs (ns.take (32 * (i + 1))).sum 2).map V.int))) r (.lst ((LO ns i).map V.int ++ (octs (ns.take (32 * (i + 1))).sum 2).map V.int))) lw = some (.lst ((lows.flatMap fun x => octs x 2).map V.int)) := by
      rw [upd_ne nrl.symm]
      exact same_new ht _ _ _ xw
    generalize upd (upd H2 t (.lst ((octs (ns.take (32 * (i + 1))).sum 2).map V.int))) r (.lst ((LO ns i).map V.int ++ (octs (ns.take (32 * (i + 1))).sum 2).map V.int)) = H5 at *
    refine ⟨_, rfl, .inl ⟨rfl, _, SqL.of xw5⟩, _, rfl, _, rfl, fun t2 ht2 => ?_⟩
    have nt2 : lw ≠ t2 := ne_of_none xw5 ht2
    have nt3 : r ≠ t2 := ne_of_none x5 ht2
    refine ⟨lw, t2, _, _, rfl, rfl, by rw [upd_ne nt2]; exact xw5, upd_same, ?_, ⟨_, _, _, _, _, rfl⟩, same_set (s5.trans (same_new ht2 _)) hlw0 _, ?_, lows ++ [m], ?_, ?_, ?_⟩
    · rw [List.length_map, List.length_map, flat_len, octs_length, sizeLine_eq]
      omega
    · rw [upd_ne nrl, upd_ne nt3]
      exact x5
    · rw [upd_same, List.flatMap_append, List.map_append]
      simp
    · rw [List.length_append, List.length_singleton, hll]
    · intro j m' e
      rcases Nat.lt_or_ge j i with h | h
      · rw [List.getElem?_append_left (by omega)] at e
        exact hlo j m' e
      · have ej : j = i := by
          have := (List.getElem?_eq_some_iff.mp e).1
          rw [List.length_append, List.length_singleton] at this
          omega
        subst ej
        rw [List.getElem?_append_right (by omega), hll, Nat.sub_self] at e
        have : m = m' := by simpa using e
        subst this
        exact hm2
  rintro σ H3 ⟨⟨k4, k5, k6, k9, k10, rfl⟩, sm3, x3, lows, xl, hll, hlo⟩
  have hlows : LowsW ns lows := ⟨hll, hlo⟩
  refine ⟨(by show 1 ≤ sizeLine; decide), fun l1 hl1 => ?_⟩
  have s4 := same_new hl1 (.lst [.int 2])
  refine ⟨_, rfl, rb, _, rfl, .inl ((sm3.trans s4).seq hS), _, rfl, fun l2 hl2 => ?_⟩
  rw [ern]
  have s5 := same_new hl2 (.lst ((octs (ns.length : Int) 2).map V.int))
  refine ⟨l1, l2, _, _, rfl, rfl, s5 _ _ upd_same, upd_same, ?_, fun l3 hl3 => ?_⟩
  · rw [List.length_map, octs_length, sizeLine_eq]
    show 1 + 2 ≤ _
    decide
  have s6 := same_new hl3 (.lst ([.int 2] ++ (octs (ns.length : Int) 2).map V.int))
  have s46 := s4.trans (s5.trans s6)
  refine ⟨_, rfl, l3, r, _, _, rfl, rfl, upd_same, s46 _ _ x3, ?_, fun l4 hl4 => ?_⟩
  · rw [List.length_append, List.length_map, octs_length, List.length_map, LO_length, sizeLine_eq]
    show 1 + 2 + _ ≤ _
    unfold many
    omega
  have s7 := same_new hl4 (.lst ([.int 2] ++ (octs (ns.length : Int) 2).map V.int ++ (LO ns ((ns.length + 31) / 32)).map V.int))
  refine ⟨_, rfl, l4, lw, _, _, rfl, rfl, upd_same, (s46.trans s7) _ _ xl, ?_, fun l5 hl5 => ?_⟩
  · rw [List.length_append, List.length_append, List.length_map, octs_length, List.length_map, LO_length, List.length_map, flat_len, sizeLine_eq]
    show 1 + 2 + _ + _ ≤ _
    unfold many
    omega
  have sA := sm3.trans (s46.trans s7)
  refine q l5 _ (sA.free hl5) (sA.trans (same_new hl5 _)) lows hlows ?_
  rw [upd_same, treeO_LO hb, List.map_append, List.map_append, List.map_append]
  rfl
def sp_law_changed : Sp := fun vs H Q _ => ∃ (p : Addr) (os : List Int) (c : Int), vs = [.ref p, .int c] ∧ H p = some (.lst (os.map V.int)) ∧ os.length ≤ 1900 ∧
  ∀ r H' (ms : List Int), Same H H' → H' r = some (.lst (ms.map V.int)) → ms.length ≤ os.length + 1 → Q (.ref r) H'
theorem ok_law_changed (T : Tx K mg a) : FnOk P w K mg base CX0 1 a.f_law_changed a.fd_law_changed ["_law_octets_here", "_law_cell"] sp_law_changed := by
  refine T.D_law_changed.F.ok sc_law_changed (fun vs H Q E h => ?_) (fun cdv A outer s H vs Q E hr h => ?_)
  · obtain ⟨p, os, c, rfl, _⟩ := h
    rfl
  obtain ⟨p, os, c, rfl, hp, hl, q⟩ := h
  refine ⟨_, (pss_cons (ps_set (i := 2) sc_law_changed.nd rfl (Or.inl rfl) (pe_op op_mod (pv 1) (pe_op op_pow pe_int pe_int)))
    (pss_cons (ps_set (i := 3) sc_law_changed.nd rfl (Or.inl rfl) (pe_op op_mod (pe_op op_fdiv (pv 2) pe_int) (pe_op op_add (pe_callB call_len_seq rfl T.b_len Tw.bt_len (pa_cons (pv 0) pa_nil)) pe_int)))
    (pss_cons (ps_set (i := 4) sc_law_changed.nd rfl (Or.inl rfl) (pe_op op_mod (pe_op op_mod (pe_op op_mul (pv 2) pe_int) pe_int) pe_int))
    (pss_cons (ps_if (PW.pt (pw_and (pt_cmpR op_eq (pe_op op_mod (pv 2) pe_int) pe_int (nomark _)) (pw_and1 (pt_cmpR op_lt (pv 3) (pe_callB call_len_seq rfl T.b_len Tw.bt_len (pa_cons (pv 0) pa_nil)) (nomark _))))) (pss_cons (ps_set (i := 5) sc_law_changed.nd rfl (Or.inl rfl) (pe_op op_shl pe_int (pe_op op_mod (pv 4) pe_int)))
    (pss_one (ps_ret (pe_op op_cat (pe_op op_cat (pe_slice sl_list (pv 0) po_none (po_some (pv 3))) (pe_lst (pa_cons (pe_op op_xor (pe_ix ix_list (pv 0) (pv 3) (fun _ _ => rfl)) (pv 5)) pa_nil))) (pe_slice sl_list (pv 0) (po_some (pe_op op_add (pv 3) pe_int)) po_none))))) pss_nil)
    (pss_cons (ps_if (PW.pt (pw_and (pt_cmpR op_eq (pe_op op_mod (pv 2) pe_int) pe_int (nomark _)) (pw_and1 (pt_cmpR op_lt (pv 3) (pe_callB call_len_seq rfl T.b_len Tw.bt_len (pa_cons (pv 0) pa_nil)) (nomark _))))) (pss_one (ps_ret (pe_op op_cat (pe_op op_cat (pe_slice sl_list (pv 0) po_none (po_some (pv 3))) (pe_lst (pa_cons (pe_ix ix_list (pe_lst (pa_cons (pv 4) (pa_cons (pe_op op_add pe_int (pv 2)) (pa_cons (pe_op op_sub (pe_op op_sub pe_int pe_int) (pv 2)) pa_nil)))) (pe_op op_mod (pv 4) pe_int) (fun _ _ => rfl)) pa_nil))) (pe_slice sl_list (pv 0) (po_some (pe_op op_add (pv 3) pe_int)) po_none)))) pss_nil)
    (pss_cons (ps_if (pt_cmpR op_eq (pe_op op_mod (pv 2) pe_int) pe_int (nomark _)) (pss_one (ps_ret (pe_op op_cat (pe_op op_cat (pe_slice sl_list (pv 0) po_none (po_some (pv 3))) (pe_lst (pa_cons (pv 4) pa_nil))) (pe_slice sl_list (pv 0) (po_some (pv 3)) po_none)))) pss_nil)
    (pss_cons (ps_if (pt_cmpR op_eq (pe_op op_mod (pv 2) pe_int) pe_int (nomark _)) (pss_one (ps_ret (pe_op op_cat (pe_slice sl_list (pv 0) po_none (po_some (pv 3))) (pe_slice sl_list (pv 0) (po_some (pe_op op_add (pv 3) pe_int)) po_none)))) pss_nil)
    (pss_cons (ps_if (PW.pt (pw_and (pt_cmpR op_eq (pe_op op_mod (pv 2) pe_int) pe_int (nomark _)) (pw_and1 (pt_cmpR op_lt (pv 3) (pe_callB call_len_seq rfl T.b_len Tw.bt_len (pa_cons (pv 0) pa_nil)) (nomark _))))) (pss_one (ps_ret (pe_op op_cat (pe_op op_cat (pe_slice sl_list (pv 0) po_none (po_some (pv 3))) (pe_rev3 (pe_slice sl_list (pv 0) (po_some (pv 3)) (po_some (pe_op op_add (pv 3) pe_int))) (pe_un un_neg pe_int))) (pe_slice sl_list (pv 0) (po_some (pe_op op_add (pv 3) pe_int)) po_none)))) pss_nil)
    (pss_cons (ps_if (pt_cmpR op_eq (pe_op op_mod (pv 2) pe_int) pe_int (nomark _)) (pss_one (ps_ret (pe_op op_cat (pv 0) (pe_lst (pa_cons pe_int pa_nil))))) pss_nil)
    (pss_one (ps_ret (pv 0)))))))))))), ?_⟩
  have ern : (os.map V.int).length = os.length := List.length_map ..
  refine mi_set (mi_op (mi_var rfl) (mi_op mi_c mi_c ⟨by decide, by decide, by decide⟩) (by show (0 : Int) < 10 ^ 60; decide)) fun H1 s1 => ?_
  obtain ⟨n, hn⟩ : ∃ n : Int, c % 10 ^ (60 : Int).toNat = n := ⟨_, rfl⟩
  rw [hn]
  obtain ⟨i, hi⟩ : ∃ i : Nat, n / 7 % ((os.length : Int) + 1) = (i : Int) := ⟨_, (Int.toNat_of_nonneg (Int.emod_nonneg _ (by omega))).symm⟩
  have hil : i ≤ os.length := by
    have := Int.emod_lt_of_pos (n / 7) (b := (os.length : Int) + 1) (by omega)
    omega
  refine mi_set (MI.to (mi_op (mi_op (mi_var rfl) mi_c ⟨by decide, by decide⟩) (mi_op0 (mi_len (mv_var rfl (s1 _ _ hp))) mi_c) (by show (0 : Int) < (os.length : Int) + 1; omega)) hi) fun H2 s2 => ?_
  obtain ⟨d, hd⟩ : ∃ d : Int, n * 69621 % 2147483629 % 256 = d := ⟨_, rfl⟩
  have hd0 : 0 ≤ d := by omega
  refine mi_set (MI.to (mi_op (mi_op (mi_op (mi_var rfl) mi_c (.inr ⟨by decide, by decide⟩)) mi_c (by show (0 : Int) < 2147483629; decide)) mi_c (by show (0 : Int) < 256; decide)) hd) fun H3 s3 => ?_
  have sm := s1.trans (s2.trans s3)
  have hp3 := sm _ _ hp
  have m7 : ∀ (k5 : Option V) (k : Int), PT [some (.ref p), some (.int c), some (.int n), some (.int (i : Int)), some (.int d), k5] H3 (tTest (tOp rEq (tOp (rI (fun x j => 0 < j) fun i j => V.int (i % j)) (tVar 2) (tC (V.int 7))) (tC (V.int k)))) (fun _ => True) := fun k5 k Q q => ⟨_, rfl, _, _, rfl, rfl, (by show (0 : Int) < 7; decide), rfl, _, rfl, q _ trivial⟩
  have mlt : ∀ (k5 : Option V), PT [some (.ref p), some (.int c), some (.int n), some (.int (i : Int)), some (.int d), k5] H3 (tTest (tOp (rI0 fun i j => V.bl (decide (i < j))) (tVar 3) (tCB (fun xs H Q => ∃ p ys, xs = [V.ref p] ∧ (SqL K H p ys ∨ SqT K H p ys) ∧ Q (.int (ys.length : Int)) H) (tCons (tVar 0) tNil)))) (fun b => b = true → i < os.length) := fun k5 Q q => ⟨_, rfl, _, rfl, p, _, rfl, .inl (SqL.of hp3), _, _, rfl, rfl, _, rfl, q _ fun z => by have := of_decide_eq_true z; rw [ern] at this; omega⟩
  have v0 := fun (k5 : Option V) => mv_var (H0 := H3) (σ := [some (.ref p), some (.int c), some (.int n), some (.int (i : Int)), some (.int d), k5]) (i := 0) rfl hp3
  have l1 : (os.take i).length = i := by
    rw [List.length_take]
    omega
  have l2 : (os.drop (i + 1)).length = os.length - (i + 1) := List.length_drop ..
  have l3 : (os.drop i).length = os.length - i := List.length_drop ..
  refine PT.arm (PT.and (m7 _ 0) (mlt _)) (fun hh => ?_) fun _ => ?_
  · have hlt := (hh rfl).2 rfl
    refine mi_set (mi_op mi_c (mi_op (mi_var rfl) mi_c (by show (0 : Int) < 8; decide)) ⟨by show 0 ≤ d % 8; omega, by show d % 8 ≤ 1000000; omega, by decide⟩) fun H4 s4 => ?_
    have v0 := mv_var (H0 := H4) (σ := [some (.ref p), some (.int c), some (.int n), some (.int (i : Int)), some (.int d), some (.int (1 * 2 ^ (d % 8).toNat))]) (i := 0) rfl (s4 _ _ hp3)
    refine ml_ret (ml_cat (ml_cat (ml_to v0 (mi_var rfl) rfl).v (ml_lst (ma_cons (mi_op0 (mi_ixL v0 (mi_var rfl) rfl (List.getElem?_eq_getElem hlt)) (mi_var rfl)) ma_nil) (by show 1 ≤ 500000; decide)).v ?_).v (ml_from (j := i + 1) v0 (mi_op0 (mi_var rfl) mi_c) (by omega)).v ?_) fun r H' _ s5 x => q r H' _ (sm.trans (s4.trans s5)) x ?_
    all_goals simp only [List.length_append, List.length_cons, List.length_nil, l1, l2]
    all_goals omega
  refine PT.arm (PT.and (m7 _ 1) (mlt _)) (fun hh => ?_) fun _ => ?_
  · have hlt := (hh rfl).2 rfl
    obtain ⟨j, hj, hj3⟩ : ∃ j : Nat, d % 3 = (j : Int) ∧ j < 3 := ⟨(d % 3).toNat, by omega, by omega⟩
    refine ml_ret (ml_cat (ml_cat (ml_to (v0 _) (mi_var rfl) rfl).v (ml_lst (ma_cons (mi_ixL (ns := [d, 256 + n, 0 - 1 - n]) (ml_lst (ma_cons (mi_var rfl) (ma_cons (mi_op0 mi_c (mi_var rfl)) (ma_cons (mi_op0 (mi_op0 mi_c mi_c) (mi_var rfl)) ma_nil))) (by show 3 ≤ 500000; decide)).v (mi_op (mi_var rfl) mi_c (by show (0 : Int) < 3; decide)) hj (List.getElem?_eq_getElem (by show j < 3; exact hj3))) ma_nil) (by show 1 ≤ 500000; decide)).v ?_).v (ml_from (j := i + 1) (v0 _) (mi_op0 (mi_var rfl) mi_c) (by omega)).v ?_) fun r H' _ s5 x => q r H' _ (sm.trans s5) x ?_
    all_goals simp only [List.length_append, List.length_cons, List.length_nil, l1, l2]
    all_goals omega
  refine PT.arm (m7 _ 2) (fun _ => ?_) fun _ => ?_
  · refine ml_ret (ml_cat (ml_cat (ml_to (v0 _) (mi_var rfl) rfl).v (ml_lst (ma_cons (mi_var rfl) ma_nil) (by show 1 ≤ 500000; decide)).v ?_).v (ml_from (j := i) (v0 _) (mi_var rfl) rfl).v ?_) fun r H' _ s5 x => q r H' _ (sm.trans s5) x ?_
    all_goals simp only [List.length_append, List.length_cons, List.length_nil, l1, l3]
    all_goals omega
  refine PT.arm (m7 _ 3) (fun _ => ?_) fun _ => ?_
  · refine ml_ret (ml_cat (ml_to (v0 _) (mi_var rfl) rfl).v (ml_from (j := i + 1) (v0 _) (mi_op0 (mi_var rfl) mi_c) (by omega)).v ?_) fun r H' _ s5 x => q r H' _ (sm.trans s5) x ?_
    all_goals simp only [List.length_append, List.length_cons, List.length_nil, l1, l2]
    all_goals omega
  refine PT.arm (PT.and (m7 _ 4) (mlt _)) (fun hh => ?_) fun _ => ?_
  · have hlt := (hh rfl).2 rfl
    refine ml_ret (ml_cat (ml_cat (ml_to (v0 _) (mi_var rfl) rfl).v (ml_rev (ml_mid (j := i) (k := i + 2) (v0 _) (mi_var rfl) (mi_op0 (mi_var rfl) mi_c) rfl (by omega)).v (mi_neg mi_c)).v ?_).v (ml_from (j := i + 2) (v0 _) (mi_op0 (mi_var rfl) mi_c) (by omega)).v ?_) fun r H' _ s5 x => q r H' _ (sm.trans s5) x ?_
    all_goals simp only [List.length_append, List.length_reverse, List.length_take, List.length_drop]
    all_goals omega
  refine PT.arm (m7 _ 5) (fun _ => ?_) fun _ => ?_
  · refine ml_ret (ml_cat (v0 _) (ml_lst (ma_cons mi_c ma_nil) (by show 1 ≤ 500000; decide)).v ?_) fun r H' _ s5 x => q r H' _ (sm.trans s5) x ?_
    all_goals simp only [List.length_append, List.length_cons, List.length_nil]
    all_goals omega
  exact ⟨_, rfl, q p _ os sm hp3 (by omega)⟩
theorem low4 {ds : List Int} (hg : GoodD ds) (hl : ds.length ≤ 2048) {j k : Nat} {m : Int} (h : LowTo (brk ds 0) 4096 j k m) (hk : k = wide (brk ds 0).length j) (hj : 32 * j < (brk ds 0).length) : LowAt (brk ds 0) j m := by
  obtain ⟨h1, h2, h3⟩ := h
  unfold wide at hk
  refine ⟨?_, fun t t1 t2 t3 => h3 t t1 (by omega)⟩
  rcases h2 with e | ⟨t, t1, t2, e⟩
  · have a := h3 (32 * j + 1) (by omega) (by omega)
    have b := brk_ht_le hg (k := 32 * j + 1) (by omega)
    omega
  · exact ⟨t, t1, by omega, by omega, e⟩
/-- what depths come to -/
theorem lowsW_low {ns lows : List Int} (hb : IsBits ns) (ht' : Tree ns) (hl : ns.length ≤ 4096) (h : LowsW ns lows) : Lows ns lows := by
  obtain ⟨ds, hg, e⟩ := tree_brk hb ht'
  have hbl := brk_len hg
  rw [e] at hbl
  refine ⟨h.1, fun j m ej => ?_⟩
  have hj := (List.getElem?_eq_some_iff.mp ej).1
  rw [h.1] at hj
  have := h.2 j m ej
  rw [← e] at this ⊢
  exact low4 hg (by omega) this rfl (by rw [e]; unfold many at hj; omega)
theorem goodT_dec {os : List Int} (h : GoodT os) : dec8 os = toldB os := by
  obtain ⟨_, _, h4, _, lows, _, e⟩ := h
  rw [← e, treeO_fro, fro_dec8 (toldB_bits os) h4, fro_toldB (toldB_bits os) (by omega)]
theorem dec_goodT {os lows : List Int} (ho : OctOk os) (ht' : Tree (dec8 os)) (hlo : Lows (dec8 os) lows) (h : treeO (dec8 os) lows = os) : GoodT os ∧ toldB os = dec8 os := by
  have hb := dec8_bits os
  have hl := dec8_length os
  have e1 : toldB os = dec8 os := by
    rw [← h, treeO_fro, fro_toldB hb (by omega), ← treeO_fro, h]
  refine ⟨⟨ho, ?_, by rw [e1]; exact hl, by rw [e1]; exact ht', lows, by rw [e1]; exact hlo, by rw [e1]; exact h⟩, e1⟩
  rw [← h, treeO_fro]
  exact fro_ok (by omega)
def RF : HO := .tup [.int 1, .bl true, .bl true, .bl false]
def sp_due (K : PySem.W.Frag) : Sp := fun vs H Q _ => ∃ (p : Addr) (os : List Int), vs = [.ref p] ∧ H p = some (.lst (os.map V.int)) ∧ os.length ≤ 2000 ∧
  (GoodT os → ∀ r H', Same H H' → H' r = some (.lst ((dsO os).map V.int)) → Q (.ref r) H') ∧ (¬ GoodT os → ∀ r H', Same H H' → H' r = some RF → Q (.ref r) H')
theorem ok_law_due (T : Tx K mg a) : FnOk P w K mg base CX0 3 a.f_law_due a.fd_law_due ["_law_octets_here"] (sp_due K) := by
  refine T.D_law_due.F.ok sc_law_due (fun vs H Q E h => ?_) (fun cdv A outer s H vs Q E hr h => ?_)
  · obtain ⟨p, os, rfl, _⟩ := h
    rfl
  obtain ⟨p, os, rfl, hp, hl, q, qE⟩ := h
  refine ⟨_, (pss_cons (ps_if (PW.pt (pw_or (pt_cmpR op_lt (pe_callB call_len_seq rfl T.b_len Tw.bt_len (pa_cons (pv 0) pa_nil)) pe_int (nomark _)) (pw_or1 (pt_cmpR (op_neD hr.units) (pe_comp rfl CompOk.zero (pi_list (pv 0)) (fun _ _ _ _ => (pts_one (PW.pt (pw_or (pt_cmpR op_lt (pv 0) pe_int (nomark _)) (pw_or1 (pt_cmpR op_gt (pv 0) pe_int (nomark _))))))) (fun _ _ _ _ => (pv 0))) (pe_lst pa_nil) (nomark _))))) (pss_one (ps_ret (pe_tup (pa_cons pe_int (pa_cons pe_bl (pa_cons pe_bl (pa_cons pe_bl pa_nil))))))) pss_nil)
    (pss_cons (ps_set (i := 1) sc_law_due.nd rfl (Or.inl rfl) (pe_op op_add (pe_ix ix_list (pv 0) pe_int (fun _ _ => rfl)) (pe_op op_mul pe_int (pe_ix ix_list (pv 0) pe_int (fun _ _ => rfl)))))
    (pss_cons (ps_set (i := 2) sc_law_due.nd rfl (Or.inl rfl) (pe_lst pa_nil))
    (pss_cons (ps_for PassesOwn.never rfl (pi_list (pe_slice sl_list (pv 0) (po_some pe_int) (po_some (pe_op op_add pe_int (pe_op op_fdiv (pe_op op_add (pe_callB (call_min2 rfl) rfl T.b_min Tw.bt_min (pa_cons (pv 1) (pa_cons pe_int pa_nil))) pe_int) pe_int))))) (pg_name (i := 3) sc_law_due.nd rfl (Or.inl rfl)) (pss_one (ps_for PassesOwn.never rfl (pi_range1 rfl T.b_range (pa_cons pe_int pa_nil)) (pg_name (i := 4) sc_law_due.nd rfl (Or.inl rfl)) (pss_cons (ps_expr (pe_bm PySem.F.plainAttrs_list PySem.F.slot_list_append PySem.F.type_list_append mt_append (pv 2) (pa_cons (pe_op op_mod (pv 3) pe_int) pa_nil)))
    (pss_one (ps_set (i := 3) sc_law_due.nd rfl (Or.inl rfl) (pe_op op_fdiv (pv 3) pe_int)))))))
    (pss_cons (ps_set (i := 2) sc_law_due.nd rfl (Or.inl rfl) (pe_slice sl_list (pv 2) po_none (po_some (pv 1))))
    (pss_cons (ps_set (i := 5) sc_law_due.nd rfl (Or.inl rfl) (pe_lst pa_nil))
    (pss_cons (ps_set (i := 6) sc_law_due.nd rfl (Or.inl rfl) pe_int)
    (pss_cons (ps_for PassesOwn.never rfl (pi_range1 rfl T.b_range (pa_cons (pe_callB call_len_seq rfl T.b_len Tw.bt_len (pa_cons (pv 2) pa_nil)) pa_nil)) (pg_name (i := 7) sc_law_due.nd rfl (Or.inl rfl)) (pss_cons (ps_if (PW.pt (pw_and (pt_cmpR op_gt (pv 7) pe_int (nomark _)) (pw_and1 (pt_cmpR op_lt (pv 6) pe_int (nomark _))))) (pss_one (ps_ret (pe_tup (pa_cons pe_int (pa_cons pe_bl (pa_cons pe_bl (pa_cons pe_bl pa_nil))))))) pss_nil)
    (pss_cons (ps_if (pt_cmpR op_eq (pe_ix ix_list (pv 2) (pv 7) (fun _ _ => rfl)) pe_int (nomark _)) (pss_one (ps_expr (pe_bm PySem.F.plainAttrs_list PySem.F.slot_list_append PySem.F.type_list_append mt_append (pv 5) (pa_cons (pv 6) pa_nil)))) pss_nil)
    (pss_one (ps_set (i := 6) sc_law_due.nd rfl (Or.inl rfl) (pe_op op_sub (pe_op op_add (pv 6) (pe_op op_mul pe_int (pe_ix ix_list (pv 2) (pv 7) (fun _ _ => rfl)))) pe_int))))))
    (pss_cons (ps_if (PW.pt (pw_or (pt_cmpR (op_eqD hr.units) (pv 5) (pe_lst pa_nil) (nomark _)) (pw_or (pt_cmpR op_ne (pv 6) pe_int (nomark _)) (pw_or1 (pt_cmpR (op_neD hr.units) (pe_cD T.D_law_written (ok_law_written T) (by decide) hr pass0 rfl (pa_cons (pv 2) pa_nil)) (pv 0) (nomark _)))))) (pss_one (ps_ret (pe_tup (pa_cons pe_int (pa_cons pe_bl (pa_cons pe_bl (pa_cons pe_bl pa_nil))))))) pss_nil)
    (pss_one (ps_ret (pv 5)))))))))))), ?_⟩
  have ern : (os.map V.int).length = os.length := List.length_map ..
  refine ⟨_, rfl, p, _, rfl, .inl (SqL.of hp), _, _, rfl, rfl, _, rfl, ite2 (fun c => ?_) fun c => ?_⟩
  · have c : (((os.map V.int).length : Nat) : Int) < 3 := of_decide_eq_true c
    refine iteT ⟨(by show 4 ≤ sizeLine; decide), fun r hr => qE (fun g => ?_) r _ (same_new hr _) (by rw [upd_same]; rfl)⟩
    have := g.2.1.1
    omega
  have c : ¬ ((((os.map V.int).length : Nat) : Int) < 3) := fun z => c (decide_eq_true z)
  have h3 : 3 ≤ os.length := by omega
  refine ⟨_, rfl, p, rfl, ⟨_, SqL.of hp⟩, ?_⟩
  refine comp_filtS (fun z => decide (z < 0) || decide (255 < z)) (SqL.of hp) (by rw [sizeLine_eq]; omega) (fun z H' Q _ q => ?_) (fun z H' Q _ q => ⟨_, rfl, q⟩) fun D hD => ?_
  · refine ⟨_, rfl, _, _, rfl, rfl, _, rfl, ?_⟩
    by_cases e0 : z < 0
    · rw [decide_eq_true e0] at q ⊢
      exact iteT q
    · rw [decide_eq_false e0] at q ⊢
      exact iteF ⟨_, rfl, _, _, rfl, rfl, _, rfl, q⟩
  have s1 := same_new hD (.lst ((os.filter (fun z => decide (z < 0) || decide (255 < z))).map V.int))
  refine ⟨(by show 0 ≤ sizeLine; decide), fun l hl2 => .inl ⟨D, l, _, [], rfl, rfl, SqL.of (same_new hl2 _ _ _ upd_same), SqL.of upd_same, _, rfl, ?_⟩⟩
  have s2 := s1.trans (same_new hl2 (.lst []))
  have eo : os.filter (fun z => decide (z < 0) || decide (255 < z)) = [] ↔ OctOk os := by
    rw [List.filter_eq_nil_iff]
    refine forall_congr' fun z => forall_congr' fun _ => ?_
    simp
  by_cases ho : OctOk os
  rotate_left
  · refine ite2 (fun _ => ?_) fun y => absurd ?_ y
    · refine ⟨(by show 4 ≤ sizeLine; decide), fun r hr => qE (fun g => ho g.1) r _ (s2.trans (same_new hr _)) (by rw [upd_same]; rfl)⟩
    · rw [decide_eq_false (fun z => ho (eo.mp z))]
      rfl
  refine iteNS (eo.mpr ho) ?_
  have en : os[1] + 256 * os[2] = ((toldN os : Nat) : Int) := by
    unfold toldN
    have e2 : (os.drop 1).take 2 = [os[1], os[2]] := by
      rw [List.drop_eq_getElem_cons (by omega), List.drop_eq_getElem_cons (by omega)]
      rfl
    have h1 := ho os[1] (List.getElem_mem _)
    have h2 := ho os[2] (List.getElem_mem _)
    rw [e2]
    show _ = (((256 * (256 * 0 + os[2]) + os[1]).toNat : Nat) : Int)
    omega
  have hp2 := s2 _ _ hp
  generalize upd (upd H D _) l _ = H2 at *
  refine mi_set (MI.to (mi_op0 (mi_ixL (j := 1) (mv_var rfl hp2) mi_c rfl (List.getElem?_eq_getElem (by omega))) (mi_op mi_c (mi_ixL (j := 2) (mv_var rfl hp2) mi_c rfl (List.getElem?_eq_getElem (by omega))) (.inl ⟨by decide, by decide⟩))) en) fun H3 s3 => ?_
  refine ⟨(by show 0 ≤ sizeLine; decide), fun b hb0 => ?_⟩
  have s4 := s2.trans (s3.trans (same_new hb0 (.lst [])))
  have hbH : H b = none := (s2.trans s3).free hb0
  have em : (3 : Int) + ((if (4096 : Int) < ((toldN os : Nat) : Int) then (4096 : Int) else ((toldN os : Nat) : Int)) + 7) / 8 = ((3 + (min (toldN os) 4096 + 7) / 8 : Nat) : Int) := by
    by_cases z : (4096 : Int) < ((toldN os : Nat) : Int)
    · rw [if_pos z, Nat.min_eq_right (by omega)]
      rfl
    · rw [if_neg z, Nat.min_eq_left (by omega)]
      omega
  refine ⟨_, rfl, _, rfl, _, rfl, _, _, rfl, _, _, rfl, rfl, _, _, rfl, rfl, ⟨by decide, by decide⟩, _, _, rfl, rfl, _, rfl, p, _, rfl, SqL.of (s4 _ _ hp), fun c hc => ⟨c, rfl, ⟨_, SqL.of upd_same⟩, ?_⟩⟩
  have ec : cutV (os.map V.int) (some 3) (some ((3 : Int) + ((if (4096 : Int) < ((toldN os : Nat) : Int) then (4096 : Int) else ((toldN os : Nat) : Int)) + 7) / 8)) = ((os.drop 3).take ((min (toldN os) 4096 + 7) / 8)).map V.int := by
    rw [em, show (3 : Int) = ((3 : Nat) : Int) from rfl, cut_nat, Nat.add_sub_cancel_left]
  rw [ec]
  have ed : (un8 ((os.drop 3).take ((min (toldN os) 4096 + 7) / 8))).take (toldN os) = dec8 os := rfl
  have hgl : ((os.drop 3).take ((min (toldN os) 4096 + 7) / 8)).length ≤ 2000 := by
    rw [List.length_take, List.length_drop]
    omega
  generalize (os.drop 3).take ((min (toldN os) 4096 + 7) / 8) = gs at *
  have nbc : b ≠ c := ne_of_none upd_same hc
  refine for_list (xs := gs.map V.int) (fun i σ X => (∃ k3 k4, σ = [some (.ref p), some (.int ((toldN os : Nat) : Int)), some (.ref b), k3, k4, none, none, none]) ∧ Same H X ∧ X c = some (.lst (gs.map V.int)) ∧ X b = some (.lst ((un8 (gs.take i)).map V.int))) ⟨⟨none, none, rfl⟩, s4.trans (same_new hc _), upd_same, by rw [upd_ne nbc, upd_same]; rfl⟩ ?_ ?_ ?_
  · rintro i σ X _ ⟨_, _, h, _⟩
    exact SqL.of h
  · rintro i x σ X hx ⟨⟨k3, k4, rfl⟩, sX, xc, xb⟩
    obtain ⟨z, hz, rfl⟩ := int_at hx
    have hi := (List.getElem?_eq_some_iff.mp hz).1
    refine ⟨_, rfl, by decide, by decide, ?_⟩
    refine for_range (fun j σ X => (∃ k4, σ = [some (.ref p), some (.int ((toldN os : Nat) : Int)), some (.ref b), some (.int (z / 2 ^ j)), k4, none, none, none]) ∧ Same H X ∧ X c = some (.lst (gs.map V.int)) ∧ X b = some (.lst ((un8 (gs.take i) ++ bits z j).map V.int))) ⟨⟨k4, by rw [Int.pow_zero, Int.ediv_one]; rfl⟩, sX, xc, by rw [xb]; simp [bits]⟩ ?_ ?_
    · rintro j σ X hj ⟨⟨k4, rfl⟩, sX, xc, xb⟩
      have hj : j < 8 := hj
      refine ⟨_, rfl, .inl ⟨rfl, _, SqL.of xb⟩, _, rfl, _, _, rfl, rfl, (by show (0 : Int) < 2; decide), b, _, _, rfl, rfl, xb, ?_, ?_⟩
      · rw [List.length_map, List.length_append, un8_length, bits_length, List.length_take, sizeLine_eq]
        omega
      · refine ⟨_, rfl, _, _, rfl, rfl, ⟨by decide, by decide⟩, ⟨some (.int (0 + (j : Int))), ?_⟩, same_set sX hbH _, by rw [upd_ne (Ne.symm nbc)]; exact xc, ?_⟩
        · rw [← half_half]
          rfl
        · rw [upd_same, bits_succ, ← List.append_assoc, List.map_append (l₂ := [bit z j])]
          rfl
    · rintro σ X ⟨⟨k4, rfl⟩, sX, xc, xb⟩
      refine ⟨⟨_, _, rfl⟩, sX, xc, ?_⟩
      rw [List.take_add_one, hz, Option.toList_some, un8_snoc]
      exact xb
  rintro σ X ⟨⟨k3, k4, rfl⟩, sX, xc, xb⟩
  rw [List.length_map, List.take_length] at xb
  refine ⟨_, rfl, _, rfl, _, rfl, b, _, rfl, SqL.of xb, fun d hd => ?_⟩
  rw [cut_to, ed]
  have s5 := sX.trans (same_new hd (.lst ((dec8 os).map V.int)))
  have xd : upd X d (.lst ((dec8 os).map V.int)) d = some (.lst ((dec8 os).map V.int)) := upd_same
  generalize upd X d (.lst ((dec8 os).map V.int)) = X1 at *
  have hbs := dec8_bits os
  have hbl := dec8_length os
  have noT : ¬ Tree (dec8 os) → ¬ GoodT os := fun n g => n (by rw [goodT_dec g]; exact g.2.2.2.1)
  obtain ⟨bs, ebs⟩ : ∃ bs, dec8 os = bs := ⟨_, rfl⟩
  rw [ebs] at xd hbs hbl noT
  refine ⟨(by show 0 ≤ sizeLine; decide), fun dd hdd => ?_⟩
  have ebl : (bs.map V.int).length = bs.length := List.length_map ..
  have hddH : H dd = none := s5.free hdd
  have nd : d ≠ dd := ne_of_none xd hdd
  have s6 := s5.trans (same_new hdd (.lst []))
  refine ⟨_, rfl, d, _, rfl, .inl (SqL.of (same_new hdd _ _ _ xd)), (bs.length : Int), congrArg (fun n : Nat => [V.int (n : Int)]) ebl, by omega, by omega, ?_⟩
  rw [Int.toNat_natCast]
  refine for_range (n := bs.length) (fun i σ X => (∃ k7, σ = [some (.ref p), some (.int ((toldN os : Nat) : Int)), some (.ref d), k3, k4, some (.ref dd), some (.int (ht bs i)), k7]) ∧ Same H X ∧ X d = some (.lst (bs.map V.int)) ∧ X dd = some (.lst ((dps bs i).map V.int)) ∧ ∀ k, 0 < k → k < i → 0 < ht bs k) ⟨⟨none, by rw [ht_zero]; rfl⟩, s6, same_new hdd _ _ _ xd, upd_same, fun k k0 k1 => by omega⟩ ?_ ?_
  · rintro i σ X hi ⟨⟨k7, rfl⟩, sX, xd, xdd, hpos⟩
    have hbi : bs[i]? = some bs[i] := List.getElem?_eq_getElem hi
    by_cases hbad : 0 < i ∧ ht bs i < 1
    · refine ⟨_, rfl, _, _, rfl, rfl, _, rfl, ?_⟩
      refine ite2 (fun _ => ?_) fun c => absurd (decide_eq_true (show (0 : Int) < 0 + (i : Int) by omega)) c
      refine ⟨_, rfl, _, _, rfl, rfl, _, rfl, ?_⟩
      rw [decide_eq_true hbad.2]
      refine iteT ⟨(by show 4 ≤ sizeLine; decide), fun r hr => qE (noT fun t => ?_) r _ (sX.trans (same_new hr _)) (by rw [upd_same]; rfl)⟩
      have := t.2.2 i hbad.1 hi
      omega
    have hpos' : ∀ k, 0 < k → k < i + 1 → 0 < ht bs k := fun k k0 k1 => by
      rcases Nat.lt_or_ge k i with z | z
      · exact hpos k k0 z
      · have : k = i := by omega
        subst this
        omega
    refine PU.arm (PU.and (pu_op (mi_var rfl) mi_c) (pu_op (mi_var rfl) mi_c)) (fun X2 s2 hh => ?_) fun X2 s2 _ => ?_
    · have h1 := of_decide_eq_true (hh rfl).1
      have h2 := of_decide_eq_true (hh rfl).2
      exact absurd ⟨by omega, h2⟩ hbad
    have xd2 := s2 _ _ xd
    have xdd2 := s2 _ _ xdd
    have sX2 := sX.trans s2
    refine PU.arm (pu_eq (mi_ixL (j := i) (mv_var rfl xd2) (mi_var rfl) (by omega) hbi) mi_c) (fun X3 s3 hh => ?_) fun X3 s3 hh => ?_
    · have h1 : bs[i] = 1 := of_decide_eq_true hh
      have xdd3 := s3 _ _ xdd2
      refine ⟨_, rfl, .inl ⟨rfl, _, SqL.of xdd3⟩, _, rfl, dd, _, _, rfl, rfl, xdd3, ?_, ?_⟩
      · have := dps_length bs i
        rw [List.length_map, sizeLine_eq]
        omega
      have s4 := same_set (sX2.trans s3) hddH (.lst ((dps bs i).map V.int ++ [.int (ht bs i)]))
      have xd4 : upd X3 dd (.lst ((dps bs i).map V.int ++ [.int (ht bs i)])) d = some (.lst (bs.map V.int)) := by
        rw [upd_ne nd]
        exact s3 _ _ xd2
      have xdd4 : upd X3 dd (.lst ((dps bs i).map V.int ++ [.int (ht bs i)])) dd = some (.lst ((dps bs (i + 1)).map V.int)) := by
        rw [upd_same, dps_succ, hbi, Option.getD_some, if_pos h1, List.map_append]
        rfl
      generalize upd X3 dd (.lst ((dps bs i).map V.int ++ [.int (ht bs i)])) = X4 at *
      exact mi_set (mi_op0 (mi_op0 (mi_var rfl) (mi_op mi_c (mi_ixL (j := i) (mv_var rfl xd4) (mi_var rfl) (by omega) hbi) (.inl ⟨by decide, by decide⟩))) mi_c) fun X5 s5 => ⟨⟨_, by rw [ht_succ hbi]; rfl⟩, s4.trans s5, s5 _ _ xd4, s5 _ _ xdd4, hpos'⟩
    · have h1 : ¬ bs[i] = 1 := of_decide_eq_false hh
      have xd4 := s3 _ _ xd2
      refine mi_set (mi_op0 (mi_op0 (mi_var rfl) (mi_op mi_c (mi_ixL (j := i) (mv_var rfl xd4) (mi_var rfl) (by omega) hbi) (.inl ⟨by decide, by decide⟩))) mi_c) fun X5 s5 => ⟨⟨_, by rw [ht_succ hbi]; rfl⟩, (sX2.trans s3).trans s5, s5 _ _ xd4, ?_, hpos'⟩
      rw [dps_succ, hbi, Option.getD_some, if_neg h1, List.append_nil]
      exact s5 _ _ (s3 _ _ xdd2)
  rintro σ X ⟨⟨k7, rfl⟩, sX, xd, xdd, hpos⟩
  have bad : ∀ {X1 : Hp}, Same H X1 → ¬ GoodT os → ([V.int 1, .bl true, .bl true, .bl false].length ≤ sizeLine ∧ ∀ r, X1 r = none → Q (.ref r) (upd X1 r (.tup [.int 1, .bl true, .bl true, .bl false]))) := fun {X1} s1 n => ⟨(by show 4 ≤ sizeLine; decide), fun r hr => qE n r _ (s1.trans (same_new hr _)) (by rw [upd_same]; rfl)⟩
  refine ⟨_, rfl, (by show 0 ≤ sizeLine; decide), fun l hl2 => ?_⟩
  have s7 := same_new hl2 (.lst [])
  refine .inl ⟨dd, l, _, [], rfl, rfl, SqL.of (s7 _ _ xdd), SqL.of upd_same, _, rfl, ?_⟩
  have sX7 := sX.trans s7
  have xd7 := s7 _ _ xd
  have xdd7 := s7 _ _ xdd
  generalize upd X l (.lst []) = X7 at *
  by_cases hnil : dps bs bs.length = []
  · rw [decide_eq_true hnil]
    refine iteT (iteT (bad sX7 (noT fun t => ?_)))
    have h2 := t.1
    have e0 : bs[0]? = some bs[0] := List.getElem?_eq_getElem (by omega)
    have h1 := t.2.2 1 (by omega) (by omega)
    rw [ht_succ e0, ht_zero] at h1
    have hb0 : bs[0] = 1 := by
      rcases hbs _ (List.getElem_mem (show 0 < bs.length by omega)) with z | z
      · omega
      · exact z
    have : ht bs 0 ∈ dps bs bs.length := by
      unfold dps
      refine List.mem_map.mpr ⟨0, List.mem_filter.mpr ⟨List.mem_range.mpr (by omega), ?_⟩, rfl⟩
      rw [e0, hb0]
      rfl
    rw [hnil] at this
    simp at this
  rw [decide_eq_false hnil]
  refine iteF ?_
  refine ⟨_, rfl, rfl, _, rfl, ?_⟩
  by_cases h0 : ht bs bs.length = 0
  rotate_left
  · refine ite2 (fun _ => iteT (bad sX7 (noT fun t => h0 t.2.1))) fun y => absurd ?_ y
    rw [dec_int]
    simp [h0]
  refine iteNS (congrArg V.int h0) ?_
  have hlen : 0 < bs.length := by
    rcases Nat.eq_zero_or_pos bs.length with z | z
    · rw [z] at hnil
      exact absurd rfl hnil
    · exact z
  have htree : Tree bs := by
    refine ⟨?_, h0, hpos⟩
    rcases Nat.lt_or_ge 1 bs.length with z | z
    · exact z
    · have e1 : bs.length = 1 := by omega
      have e0 : bs[0]? = some bs[0] := List.getElem?_eq_getElem hlen
      rw [e1, ht_succ e0, ht_zero] at h0
      omega
  refine ⟨_, rfl, d, bs, rfl, SqL.of xd7, hbs, by omega, fun r H6 hr6 s8 lows hlw x8 => ⟨_, rfl, .inl ⟨r, p, _, _, rfl, rfl, SqL.of x8, SqL.of ((sX7.trans s8) _ _ hp), _, rfl, ?_⟩⟩⟩
  have hlo := lowsW_low hbs htree hbl hlw
  by_cases hw : treeO bs lows = os
  · refine iteNS hw ?_
    subst ebs
    obtain ⟨hgood, e1⟩ := dec_goodT ho htree hlo hw
    refine ⟨_, rfl, q hgood dd _ (sX7.trans s8) ?_⟩
    rw [s8 _ _ xdd7]
    unfold dsO
    rw [e1]
  · refine ite2 (fun _ => bad (sX7.trans s8) fun g => ?_) fun y => absurd ?_ y
    · have e3 := goodT_dec g
      obtain ⟨_, _, _, _, lows2, hlo2, e2⟩ := g
      rw [← e3, ebs] at hlo2 e2
      rw [hlo2.uniq hlo] at e2
      exact hw e2
    · rw [decide_eq_false hw]
      rfl
def sp_asked (cN Pl : Addr) : Sp := fun vs H Q E => ∃ (p : Addr) (os : List Int) (wy : Int), vs = [.int wy, .ref p] ∧ H p = some (.lst (os.map V.int)) ∧ os.length ≤ 2000 ∧ (¬ GoodT os → ∀ H', Same H H' → E (.ref cN) none H') ∧
  ((wy = 0 ∧ (GoodT os → ∀ r H', H r = none → Same H H' → H' r = some (.lst ((dsO os).map V.int)) → Q (.ref r) H')) ∨
   (wy = 1 ∧ TabAt H Pl (posOf i_look_of) T_look.qual ∧ (GoodT os → ∀ r t ah nd bl g lows' S xs cs H', H bl = none → SameT Pl H H' → TabAt H' Pl (posOf i_look_of) T_look.qual → H' r = some (.tup [.ref t, .ref g]) → KB H' t ah nd bl (toldB os) lows' S xs → CloAt H' g T_look cs [.ref bl] → Q (.ref r) H')))
theorem ok_law_asked (T : Tx K mg a) (B : Bs mg base a) : FnOk P w K mg base (CX1 P w) 12 a.f_law_asked a.fd_law_asked ["_law_way", "_law_octets_here"] (sp_asked a.c_NoOctets a.tP_look_of) := by
  refine T.D_law_asked.F.ok1 sc_law_asked (fun vs H Q E h => ?_) (fun cdv A outer s H vs Q E hr h => ?_)
  · obtain ⟨p, os, wy, rfl, _⟩ := h
    rfl
  obtain ⟨p, os, wy, rfl, hp, hl, qE, h⟩ := h
  refine ⟨_, (pss_cons (ps_if (pt_cmpR op_eq (pv 0) pe_int (nomark _)) (pss_one (ps_ret (pe_cD T.D_read_tree (ok_read_tree T) (by decide) hr pass1 rfl (pa_cons (pv 1) pa_nil)))) pss_nil)
    (pss_one (ps_ret (pe_cD T.D_opened_tree (ok_opened_tree T B) (by decide) hr pass1 rfl (pa_cons (pv 1) pa_nil))))), ?_⟩
  rcases h with ⟨rfl, q⟩ | ⟨rfl, hT, q⟩
  · exact ⟨_, rfl, rfl, _, rfl, iteT ⟨_, rfl, p, os, rfl, hp, hl, q, qE⟩⟩
  · refine ⟨_, rfl, rfl, _, rfl, ite2 (fun z => absurd z (by decide)) fun _ => ?_⟩
    exact ⟨_, rfl, p, os, rfl, hp, hl, hT, q, qE⟩
theorem six {σ : St} (h : σ.length = 6) : ∃ a b c d e f, σ = [a, b, c, d, e, f] := by
  match σ, h with
  | [a, b, c, d, e, f], _ => exact ⟨a, b, c, d, e, f, rfl⟩
def sp_told (Pl : Addr) : Sp := fun vs H Q _ => ∃ (p : Addr) (os : List Int) (wy : Int), vs = [.int wy, .ref p] ∧ H p = some (.lst (os.map V.int)) ∧ os.length ≤ 2000 ∧ (¬ GoodT os → ∀ r H', H r = none → Same H H' → H' r = some RF → Q (.ref r) H') ∧
  ((wy = 0 ∧ (GoodT os → ∀ r H', H r = none → Same H H' → H' r = some (.lst ((dsO os).map V.int)) → Q (.ref r) H')) ∨
   (wy = 1 ∧ TabAt H Pl (posOf i_look_of) T_look.qual ∧ (GoodT os → ∀ r t ah nd bl g lows' S xs cs H', H bl = none → SameT Pl H H' → TabAt H' Pl (posOf i_look_of) T_look.qual → H' r = some (.tup [.ref t, .ref g]) → KB H' t ah nd bl (toldB os) lows' S xs → CloAt H' g T_look cs [.ref bl] → Q (.ref r) H')))
theorem ok_law_told (T : Tx K mg a) (B : Bs mg base a) : FnOk P w K mg base CX0 13 a.f_law_told a.fd_law_told ["_law_way", "_law_octets_here"] (sp_told a.tP_look_of) := by
  refine T.D_law_told.F.ok sc_law_told (fun vs H Q E h => ?_) (fun cdv A outer s H vs Q E hr h => ?_)
  · obtain ⟨p, os, wy, rfl, _⟩ := h
    rfl
  obtain ⟨p, os, wy, rfl, hp, hl, qE, h⟩ := h
  refine ⟨_, (pss_cons (ps_set (i := 2) sc_law_told.nd rfl (Or.inl rfl) (pe_tup (pa_cons pe_int (pa_cons pe_bl (pa_cons pe_bl (pa_cons pe_bl pa_nil))))))
    (pss_cons (ps_set (i := 3) sc_law_told.nd rfl (Or.inl rfl) (pe_lst pa_nil))
    (pss_cons (ps_try rfl rfl (fun _ _ => (pss_one (ps_set (i := 3) sc_law_told.nd rfl (Or.inl rfl) (pe_cD T.D_law_asked (ok_law_asked T B) (by decide) hr passT rfl (pa_cons (pv 0) (pa_cons (pv 1) pa_nil)))))) (ph_as (i := 4) T.x_NoOctets T.k_NoOctets rfl sc_law_told.nd rfl rfl (fun _ => (pss_cons (ps_set (i := 5) sc_law_told.nd rfl (Or.inl rfl) (pe_or (pe_callB (show CallR _ _ (rIsx K) from call_isx) rfl T.b_isinstance Tw.bt_isinstance (pa_cons (pv 4) (pa_cons (pe_glob (v := .ref a.c_NoBit) rfl T.g_NoBit rfl) pa_nil))) (pe_or (pe_callB (show CallR _ _ (rIsx K) from call_isx) rfl T.b_isinstance Tw.bt_isinstance (pa_cons (pv 4) (pa_cons (pe_glob (v := .ref a.c_TooMany) rfl T.g_TooMany rfl) pa_nil))) (pe_one (pe_callB (show CallR _ _ (rIsx K) from call_isx) rfl T.b_isinstance Tw.bt_isinstance (pa_cons (pv 4) (pa_cons (pe_glob (v := .ref a.c_NoTree) rfl T.g_NoTree rfl) pa_nil)))))))
    (pss_one (ps_set (i := 2) sc_law_told.nd rfl (Or.inl rfl) (pe_tup (pa_cons pe_int (pa_cons (pe_callB (show CallR _ _ (rIsx K) from call_isx) rfl T.b_isinstance Tw.bt_isinstance (pa_cons (pv 4) (pa_cons (pe_glob (v := .ref a.c_WoodError) rfl T.g_WoodError rfl) pa_nil))) (pa_cons (pe_callB (show CallR _ _ (rIsx K) from call_isx) rfl T.b_isinstance Tw.bt_isinstance (pa_cons (pv 4) (pa_cons (pe_bltn (v := .ty "ValueError") rfl T.b_ValueError Tw.bt_ValueError rfl) pa_nil))) (pa_cons (pv 5) pa_nil))))))))) ph_nil))
    (pss_cons (ps_if (pt_cmpR op_gt (pe_ix ix_tup (pv 2) pe_int (fun _ _ => rfl)) pe_int (nomark _)) (pss_one (ps_ret (pv 2))) pss_nil)
    (pss_cons (ps_if (PW.pt (pw_and (pt_cmpR op_eq (pv 0) pe_int (nomark _)) (pw_and1 (pt_not (pt_val (pe_callB call_isi rfl T.b_isinstance Tw.bt_isinstance (pa_cons (pv 3) (pa_cons (pe_bltn (v := .ty "list") rfl T.b_list Tw.bt_list rfl) pa_nil)))))))) (pss_one (ps_ret (pe_tup (pa_cons pe_int (pa_cons pe_bl (pa_cons pe_bl (pa_cons pe_bl pa_nil))))))) pss_nil)
    (pss_cons (ps_if (PW.pt (pw_and (pt_cmpR op_eq (pv 0) pe_int (nomark _)) (pw_and1 (pt_cmpR (op_neD hr.units) (pe_comp rfl CompOk.zero (pi_list (pv 3)) (fun _ _ _ _ => (pts_one (pt_not (pt_val (pe_cD T.D_law_whole (ok_law_whole T) (by decide) hr pass0 rfl (pa_cons (pv 0) pa_nil)))))) (fun _ _ _ _ => (pv 0))) (pe_lst pa_nil) (nomark _))))) (pss_one (ps_ret (pe_tup (pa_cons pe_int (pa_cons pe_bl (pa_cons pe_bl (pa_cons pe_bl pa_nil))))))) pss_nil)
    (pss_one (ps_ret (pv 3))))))))), ?_⟩
  refine ⟨(by show 4 ≤ sizeLine; decide), fun t0 ht0 => ?_⟩
  refine ⟨(by show 0 ≤ sizeLine; decide), fun f0 hf0 => ?_⟩
  have s1 := (same_new ht0 (.tup [.int 0, .bl false, .bl false, .bl false])).trans (same_new hf0 (.lst []))
  have x0 : upd (upd H t0 (.tup [.int 0, .bl false, .bl false, .bl false])) f0 (.lst []) t0 = some (.tup [.int 0, .bl false, .bl false, .bl false]) := same_new hf0 _ _ _ upd_same
  generalize upd (upd H t0 (.tup [.int 0, .bl false, .bl false, .bl false])) f0 (.lst []) = H1 at *
  refine ⟨_, rfl, _, rfl, p, os, wy, rfl, s1 _ _ hp, hl, fun hbad H2 sm2 => ⟨_, rfl, fun σ' hσ => ?_⟩, ?_⟩
  · obtain ⟨k0, k1, k2, k3, k4, k5, rfl⟩ := six hσ
    refine ⟨true, T.i_NoOctets_NoOctets, iteT fun ea hea => ?_⟩
    have sE := (s1.trans sm2).trans (same_new hea (excO ea a.c_NoOctets))
    refine ⟨_, rfl, ea, _, _, _, _, rfl, .inl ⟨_, rfl, rfl⟩, upd_same, T.k_NoOctets, T.i_NoOctets_NoBit, false, rfl, iteF ?_⟩
    refine ⟨_, rfl, ea, _, _, _, _, rfl, .inl ⟨_, rfl, rfl⟩, upd_same, T.k_NoOctets, T.i_NoOctets_TooMany, false, rfl, iteF ?_⟩
    refine ⟨_, rfl, ea, _, _, _, _, rfl, .inl ⟨_, rfl, rfl⟩, upd_same, T.k_NoOctets, T.i_NoOctets_NoTree, ?_⟩
    refine ⟨_, rfl, ea, _, _, _, _, rfl, .inl ⟨_, rfl, rfl⟩, upd_same, T.k_NoOctets, T.i_NoOctets_WoodError, ?_⟩
    refine ⟨_, rfl, ea, _, _, _, _, rfl, .inr ⟨_, rfl, rfl⟩, upd_same, T.k_NoOctets, T.i_NoOctets_ValueError, ?_⟩
    refine ⟨_, rfl, (by show 4 ≤ sizeLine; decide), fun t ht => ?_⟩
    refine ⟨_, rfl, t, _, _, _, rfl, rfl, SqT.of upd_same, rfl, _, _, rfl, rfl, _, rfl, ite2 (fun _ => ?_) fun z => absurd (by decide) z⟩
    exact ⟨_, rfl, qE hbad t _ (sE.free ht) (sE.trans (same_new ht _)) (by rw [upd_same]; rfl)⟩
  rcases h with ⟨rfl, q⟩ | ⟨rfl, hT, q⟩
  · refine .inl ⟨rfl, fun hg r H2 hr0 sm2 hr1 => ?_⟩
    refine ⟨_, rfl, t0, _, _, _, rfl, rfl, SqT.of (sm2 _ _ x0), rfl, _, _, rfl, rfl, _, rfl, ite2 (fun z => absurd z (by decide)) fun _ => ?_⟩
    refine ⟨_, rfl, rfl, _, rfl, iteT ?_⟩
    refine ⟨_, rfl, _, "list", _, true, rfl, .lst hr1, rfl, true, rfl, iteF ?_⟩
    refine ⟨_, rfl, rfl, _, rfl, iteT ?_⟩
    have hlr := hg.dlen
    refine ⟨_, rfl, r, rfl, ⟨_, SqL.of hr1⟩, ?_⟩
    refine comp_filtS (fun z => false) (SqL.of hr1) (by rw [sizeLine_eq]; omega) (fun z H' Q _ q => ⟨_, rfl, z, rfl, true, rfl, q⟩) (fun z H' Q _ q => ⟨_, rfl, q⟩) fun D hD => ?_
    have e0 : (dsO os).filter (fun _ => false) = [] := by simp
    rw [e0]
    refine ⟨(by show 0 ≤ sizeLine; decide), fun l hl2 => .inl ⟨D, l, [], [], rfl, rfl, SqL.of (same_new hl2 _ _ _ upd_same), SqL.of upd_same, _, rfl, iteF ?_⟩⟩
    have sD := s1.trans sm2
    have s3 := (same_new hD (.lst ([].map V.int))).trans (same_new hl2 (.lst []))
    exact ⟨_, rfl, q hg r _ (s1.free hr0) (sD.trans s3) (s3 _ _ hr1)⟩
  · refine .inr ⟨rfl, TabAt.same hT s1, fun hg r t ah nd bl g lows' S xs cs H2 hbl st hT2 xr kb cg => ?_⟩
    have x2 : H2 t0 = some (.tup [.int 0, .bl false, .bl false, .bl false]) := st _ _ x0 (TabAt.ne (TabAt.same hT s1) x0 nofun)
    refine ⟨_, rfl, t0, _, _, _, rfl, rfl, SqT.of x2, rfl, _, _, rfl, rfl, _, rfl, ite2 (fun z => absurd z (by decide)) fun _ => ?_⟩
    refine ⟨_, rfl, rfl, _, rfl, ite2 (fun z => absurd z (by decide)) fun _ => iteF ?_⟩
    refine ⟨_, rfl, rfl, _, rfl, ite2 (fun z => absurd z (by decide)) fun _ => iteF ?_⟩
    exact ⟨_, rfl, q hg r t ah nd bl g lows' S xs cs H2 (s1.free hbl) (SameT.trans (SameT.of s1) st) hT2 xr kb cg⟩
theorem mi_cell {H0 : Hp} {σ : St} {p : Addr} {zs : List Int} {k : Nat} {i : Int} {t : TE} {E : XK} (e : σ[0]? = some (some (.ref p))) (hS : SqL K H0 p (zs.map V.int)) (ht : MI H0 σ t i) (ei : i = (k : Int)) : MI H0 σ (tCall (sp_cell_at K) [] E (tCons (tVar 0) (tCons t tNil))) ((zs[k]?).getD 0) := fun H _ s q =>
  ⟨_, e, ht H _ s fun H1 s1 => ⟨p, zs, k, by rw [ei]; rfl, (s.trans s1).seq hS, q H1 s1⟩⟩
theorem treeO_few {ns lows : List Int} (hb : IsBits ns) (h : LowsW ns lows) (hl : ns.length ≤ 4200) : (treeO ns lows).length ≤ 1100 := by
  have hm : many ns.length ≤ 132 := by
    unfold many
    omega
  rw [treeO_length hb, h.1]
  omega
theorem isBits_mid {ns xs : List Int} (h : IsBits ns) (hx : IsBits xs) (i j : Nat) : IsBits (ns.take i ++ xs ++ ns.drop j) := isBits_append (isBits_append (h.take _) hx) (h.drop _)
theorem isBits_rep2 {xs : List Int} (h : IsBits xs) (k : Nat) : IsBits (List.replicate k xs).flatten := fun x hx => by
  obtain ⟨l, hl, hx⟩ := List.mem_flatten.mp hx
  rw [(List.mem_replicate.mp hl).2] at hx
  exact h x hx
def sp_law_octets (K : PySem.W.Frag) : Sp := fun vs H Q _ => ∃ (p : Addr) (zs : List Int), vs = [.ref p] ∧ SqL K H p (zs.map V.int) ∧ zs.length ≤ 63 ∧
  ∀ r H' (ms : List Int), Same H H' → H' r = some (.lst (ms.map V.int)) → ms.length ≤ 1500 → Q (.ref r) H'
theorem ok_law_octets (T : Tx K mg a) : FnOk P w K mg base CX0 3 a.f_law_octets a.fd_law_octets ["_law_script"] (sp_law_octets K) := by
  refine T.D_law_octets.F.ok sc_law_octets (fun vs H Q E h => ?_) (fun cdv A outer s H vs Q E hr h => ?_)
  · obtain ⟨p, zs, rfl, _⟩ := h
    rfl
  obtain ⟨p, zs, rfl, hS, hl, q⟩ := h
  refine ⟨_, (pss_cons (ps_set (i := 1) sc_law_octets.nd rfl (Or.inl rfl) (pe_cD T.D_law_bits (ok_law_bits T) (by decide) hr pass0 rfl (pa_cons (pv 0) pa_nil)))
    (pss_cons (ps_set (i := 2) sc_law_octets.nd rfl (Or.inl rfl) (pe_op op_mod (pe_cD T.D_law_cell_at (ok_law_cell_at T) (by decide) hr pass0 rfl (pa_cons (pv 0) (pa_cons pe_int pa_nil))) (pe_callB call_len_seq rfl T.b_len Tw.bt_len (pa_cons (pv 1) pa_nil))))
    (pss_cut (ps_if (pt_cmpR op_eq (pe_op op_mod (pe_cD T.D_law_cell_at (ok_law_cell_at T) (by decide) hr pass0 rfl (pa_cons (pv 0) (pa_cons pe_int pa_nil))) pe_int) pe_int (nomark _)) (pss_cons (ps_set (i := 3) sc_law_octets.nd rfl (Or.inl rfl) (pe_slice sl_list (pv 1) (po_some (pv 2)) (po_some (pe_op op_add (pv 2) pe_int))))
    (pss_one (ps_set (i := 1) sc_law_octets.nd rfl (Or.inl rfl) (pe_op op_cat (pe_op op_cat (pe_slice sl_list (pv 1) po_none (po_some (pv 2))) (pe_rev3 (pv 3) (pe_un un_neg pe_int))) (pe_slice sl_list (pv 1) (po_some (pe_op op_add (pv 2) pe_int)) po_none))))) pss_nil)
    (pss_cut (ps_if (pt_cmpR op_eq (pe_op op_mod (pe_cD T.D_law_cell_at (ok_law_cell_at T) (by decide) hr pass0 rfl (pa_cons (pv 0) (pa_cons pe_int pa_nil))) pe_int) pe_int (nomark _)) (pss_one (ps_set (i := 1) sc_law_octets.nd rfl (Or.inl rfl) (pe_op op_cat (pe_op op_cat (pe_slice sl_list (pv 1) po_none (po_some (pv 2))) (pe_lst (pa_cons (pe_op op_sub pe_int (pe_ix ix_list (pv 1) (pv 2) (fun _ _ => rfl))) pa_nil))) (pe_slice sl_list (pv 1) (po_some (pe_op op_add (pv 2) pe_int)) po_none)))) pss_nil)
    (pss_cons (ps_set (i := 4) sc_law_octets.nd rfl (Or.inl rfl) (pe_cD T.D_law_written (ok_law_written T) (by decide) hr pass0 rfl (pa_cons (pv 1) pa_nil)))
    (pss_cut (ps_if (pt_cmpR op_eq (pe_op op_mod (pe_cD T.D_law_cell_at (ok_law_cell_at T) (by decide) hr pass0 rfl (pa_cons (pv 0) (pa_cons pe_int pa_nil))) pe_int) pe_int (nomark _)) (pss_one (ps_for PassesOwn.never rfl (pi_range1 rfl T.b_range (pa_cons (pe_op op_add pe_int (pe_op op_mod (pe_cD T.D_law_cell_at (ok_law_cell_at T) (by decide) hr pass0 rfl (pa_cons (pv 0) (pa_cons pe_int pa_nil))) pe_int)) pa_nil)) (pg_name (i := 5) sc_law_octets.nd rfl (Or.inl rfl)) (pss_one (ps_set (i := 4) sc_law_octets.nd rfl (Or.inl rfl) (pe_cD T.D_law_changed (ok_law_changed T) (by decide) hr pass0 rfl (pa_cons (pv 4) (pa_cons (pe_cD T.D_law_cell_at (ok_law_cell_at T) (by decide) hr pass0 rfl (pa_cons (pv 0) (pa_cons (pe_op op_add pe_int (pv 5)) pa_nil))) pa_nil))))))) pss_nil)
    (pss_cut (ps_if (pt_cmpR op_eq (pe_op op_mod (pe_cD T.D_law_cell_at (ok_law_cell_at T) (by decide) hr pass0 rfl (pa_cons (pv 0) (pa_cons pe_int pa_nil))) pe_int) pe_int (nomark _)) (pss_one (ps_set (i := 4) sc_law_octets.nd rfl (Or.inl rfl) (pe_op op_cat (pe_lst (pa_cons pe_int pa_nil)) (pe_comp rfl CompOk.zero (pi_list (pe_slice sl_list (pv 0) po_none (po_some pe_int))) (fun _ _ _ _ => pts_nil) (fun _ _ _ _ => (pe_op op_mod (pv 0) pe_int)))))) pss_nil)
    (pss_cut (ps_if (pt_cmpR op_eq (pe_op op_mod (pe_cD T.D_law_cell_at (ok_law_cell_at T) (by decide) hr pass0 rfl (pa_cons (pv 0) (pa_cons pe_int pa_nil))) pe_int) pe_int (nomark _)) (pss_cons (ps_set (i := 6) sc_law_octets.nd rfl (Or.inl rfl) (pe_op op_mod (pe_op op_fdiv (pe_cD T.D_law_cell_at (ok_law_cell_at T) (by decide) hr pass0 rfl (pa_cons (pv 0) (pa_cons pe_int pa_nil))) pe_int) pe_int))
    (pss_cons (ps_set (i := 1) sc_law_octets.nd rfl (Or.inl rfl) (pe_op op_cat (pe_op op_cat (pe_lst (pa_cons pe_int pa_nil)) (pe_op op_rep (pe_lst (pa_cons pe_int (pa_cons pe_int pa_nil))) (pe_op op_add pe_int (pv 6)))) (pe_lst (pa_cons pe_int pa_nil))))
    (pss_cut (ps_if (pt_cmpR op_eq (pv 6) pe_int (nomark _)) (pss_one (ps_set (i := 1) sc_law_octets.nd rfl (Or.inl rfl) (pe_op op_cat (pe_op op_rep (pe_lst (pa_cons pe_int pa_nil)) pe_int) (pe_op op_rep (pe_lst (pa_cons pe_int pa_nil)) pe_int)))) pss_nil)
    (pss_one (ps_set (i := 4) sc_law_octets.nd rfl (Or.inl rfl) (pe_cD T.D_law_written (ok_law_written T) (by decide) hr pass0 rfl (pa_cons (pv 1) pa_nil))))))) pss_nil)
    (pss_one (ps_ret (pv 4))))))))))), ?_⟩
  refine ⟨_, rfl, p, zs, rfl, hS, hl, fun b H1 ns hb0 s1 xb hb hbl hb2 => ?_⟩
  obtain ⟨i, hi⟩ : ∃ i : Nat, (zs[1]?).getD (0 : Int) % (ns.length : Int) = (i : Int) := ⟨_, (Int.toNat_of_nonneg (Int.emod_nonneg _ (by omega))).symm⟩
  have hil : i < ns.length := by
    have := Int.emod_lt_of_pos ((zs[1]?).getD (0 : Int)) (b := (ns.length : Int)) (by omega)
    omega
  refine mi_set (MI.to (mi_op (mi_cell (k := 1) rfl (s1.seq hS) mi_c rfl) (mi_len (mv_var rfl xb)) (by show (0 : Int) < (ns.length : Int); omega)) hi) fun H2 s2 => ?_
  have sA := s1.trans s2
  refine ⟨fun σ' H' => ∃ (b : Addr) (ns : List Int) (k3 : Option V), σ' = [some (.ref p), some (.ref b), some (.int (i : Int)), k3, none, none, none] ∧ Same H H' ∧ H' b = some (.lst (ns.map V.int)) ∧ IsBits ns ∧ ns.length ≤ 600 ∧ i < ns.length, ?_, ?_⟩
  · refine PU.arm (pu_eq (mi_op (mi_cell (k := 2) rfl (sA.seq hS) mi_c rfl) mi_c (by show (0 : Int) < 5; decide)) mi_c) (fun H3 s3 _ => ?_) fun H3 s3 _ => ⟨b, ns, _, rfl, sA.trans s3, (s2.trans s3) _ _ xb, hb, hbl, hil⟩
    have xb3 := (s2.trans s3) _ _ xb
    refine ml_set (ml_mid (j := i) (k := i + 2) (mv_var rfl xb3) (mi_var rfl) (mi_op0 (mi_var rfl) mi_c) rfl (by omega)) fun t2 H4 _ s4 x4 => ?_
    refine ml_set (ml_cat (ml_cat (ml_to (j := i) (mv_var rfl (s4 _ _ xb3)) (mi_var rfl) rfl).v (ml_rev (mv_var rfl x4) (mi_neg mi_c)).v ?_).v (ml_from (j := i + 2) (mv_var rfl (s4 _ _ xb3)) (mi_op0 (mi_var rfl) mi_c) (by omega)).v ?_) fun b2 H5 _ s5 x5 => ⟨b2, _, _, rfl, sA.trans (s3.trans (s4.trans s5)), x5, isBits_mid hb (fun x hx => hb x (List.mem_of_mem_drop (List.mem_of_mem_take (List.mem_reverse.mp hx)))) _ _, ?_, ?_⟩
    all_goals simp only [List.length_append, List.length_reverse, List.length_take, List.length_drop]
    all_goals omega
  clear xb hb hbl hb2 hil hi
  rintro σ' H3 ⟨b, ns, k3, rfl, s3, xb, hb, hbl, hil⟩
  refine ⟨fun σ' H' => ∃ (b : Addr) (ns : List Int), σ' = [some (.ref p), some (.ref b), some (.int (i : Int)), k3, none, none, none] ∧ Same H H' ∧ H' b = some (.lst (ns.map V.int)) ∧ IsBits ns ∧ ns.length ≤ 600, ?_, ?_⟩
  · refine PU.arm (pu_eq (mi_op (mi_cell (k := 2) rfl (s3.seq hS) mi_c rfl) mi_c (by show (0 : Int) < 15; decide)) mi_c) (fun H4 s4 _ => ?_) fun H4 s4 _ => ⟨b, ns, rfl, s3.trans s4, s4 _ _ xb, hb, hbl⟩
    have xb4 := s4 _ _ xb
    refine ml_set (ml_cat (ml_cat (ml_to (j := i) (mv_var rfl xb4) (mi_var rfl) rfl).v (ml_lst (ma_cons (mi_op0 mi_c (mi_ixL (j := i) (mv_var rfl xb4) (mi_var rfl) rfl (List.getElem?_eq_getElem hil))) ma_nil) (by show 1 ≤ 500000; decide)).v ?_).v (ml_from (j := i + 1) (mv_var rfl xb4) (mi_op0 (mi_var rfl) mi_c) (by omega)).v ?_) fun b2 H5 _ s5 x5 => ⟨b2, _, rfl, s3.trans (s4.trans s5), x5, isBits_mid hb (fun x hx => ?_) _ _, ?_⟩
    rotate_left 2
    · rw [List.mem_singleton.mp hx]
      rcases hb _ (List.getElem_mem hil) with z | z
      · right
        omega
      · left
        omega
    all_goals simp only [List.length_append, List.length_take, List.length_drop, List.length_cons, List.length_nil]
    all_goals omega
  clear xb hb hbl hil s3
  rintro σ' H3 ⟨b, ns, rfl, s3, xb, hb, hbl⟩
  refine ⟨_, rfl, b, ns, rfl, SqL.of xb, hb, by omega, fun r H4 _ s4 lows hlw xr => ?_⟩
  have hrl := treeO_few hb hlw (by omega)
  generalize treeO ns lows = rs at *
  have s5 := s3.trans s4
  refine ⟨fun σ' H' => ∃ (r : Addr) (ms : List Int) (k5 : Option V), σ' = [some (.ref p), some (.ref b), some (.int (i : Int)), k3, some (.ref r), k5, none] ∧ Same H H' ∧ H' r = some (.lst (ms.map V.int)) ∧ ms.length ≤ 1200, ?_, ?_⟩
  · refine PU.arm (pu_eq (mi_op (mi_cell (k := 0) rfl (s5.seq hS) mi_c rfl) mi_c (by show (0 : Int) < 3; decide)) mi_c) (fun H6 s6 _ => ?_) fun H6 s6 _ => ⟨r, rs, _, rfl, s5.trans s6, s6 _ _ xr, by omega⟩
    have h3 : 0 ≤ ((zs[3]?).getD (0 : Int)) % 3 ∧ ((zs[3]?).getD (0 : Int)) % 3 < 3 := by omega
    refine ⟨_, rfl, p, zs, 3, rfl, (s5.trans s6).seq hS, _, _, rfl, rfl, (by show (0 : Int) < 3; decide), _, _, rfl, rfl, _, rfl, by omega, by omega, ?_⟩
    refine for_range (fun j σ' H' => ∃ (r : Addr) (ms : List Int) (k5 : Option V), σ' = [some (.ref p), some (.ref b), some (.int (i : Int)), k3, some (.ref r), k5, none] ∧ Same H H' ∧ H' r = some (.lst (ms.map V.int)) ∧ ms.length ≤ 1100 + j) ⟨r, rs, _, rfl, s5.trans s6, s6 _ _ xr, by omega⟩ ?_ ?_
    · rintro j σ' H10 hj ⟨r, ms, k5, rfl, s10, xr, hml⟩
      refine ⟨_, rfl, _, rfl, _, rfl, _, _, rfl, rfl, p, zs, 4 + j, ?_, s10.seq hS, r, ms, _, rfl, xr, by omega, fun r2 H11 ms2 s11 x2 hl2 => ⟨r2, ms2, _, rfl, s10.trans s11, x2, by omega⟩⟩
      show [V.ref p, V.int (4 + (0 + (j : Int)))] = _
      rw [show (4 : Int) + (0 + (j : Int)) = ((4 + j : Nat) : Int) by omega]
    · rintro σ' H10 ⟨r, ms, k5, rfl, s10, xr, hml⟩
      exact ⟨r, ms, k5, rfl, s10, xr, by omega⟩
  clear xr hrl s5
  rintro σ' H6 ⟨r, ms, k5, rfl, s6, xr, hrl⟩
  refine ⟨fun σ' H' => ∃ (r : Addr) (ms : List Int), σ' = [some (.ref p), some (.ref b), some (.int (i : Int)), k3, some (.ref r), k5, none] ∧ Same H H' ∧ H' r = some (.lst (ms.map V.int)) ∧ ms.length ≤ 1200, ?_, ?_⟩
  · refine PU.arm (pu_eq (mi_op (mi_cell (k := 0) rfl (s6.seq hS) mi_c rfl) mi_c (by show (0 : Int) < 9; decide)) mi_c) (fun H7 s7 _ => ?_) fun H7 s7 _ => ⟨r, ms, rfl, s6.trans s7, s7 _ _ xr, hrl⟩
    have s67 := s6.trans s7
    refine ⟨(by show 1 ≤ sizeLine; decide), fun l1 hl1 => ?_⟩
    have s8 := same_new hl1 (.lst [.int 2])
    refine ⟨_, rfl, _, rfl, p, _, rfl, (s67.trans s8).seq hS, fun c hc => ⟨c, rfl, ⟨_, SqL.of upd_same⟩, ?_⟩⟩
    have ez : cutV (zs.map V.int) none (some 63) = zs.map V.int := by
      rw [show (63 : Int) = ((63 : Nat) : Int) from rfl, cut_to, List.take_of_length_le hl]
    rw [ez]
    have s9 := same_new hc (.lst (zs.map V.int))
    refine comp_mapM (fun z => z % 256) (SqL.of upd_same) (by rw [sizeLine_eq]; omega) (fun _ _ _ q => q) (fun z H' Q _ _ q => ⟨_, rfl, _, _, rfl, rfl, (by show (0 : Int) < 256; decide), q⟩) fun d hd => ?_
    have s10 := same_new hd (.lst ((zs.map fun z => z % 256).map V.int))
    refine ⟨l1, d, _, _, rfl, rfl, (s9.trans s10) _ _ upd_same, upd_same, by rw [List.length_map, List.length_map, sizeLine_eq]; show 1 + _ ≤ _; omega, fun r2 hr2 => ?_⟩
    refine ⟨r2, 2 :: zs.map fun z => z % 256, rfl, s67.trans (s8.trans (s9.trans (s10.trans (same_new hr2 _)))), by rw [upd_same, List.map_cons]; rfl, ?_⟩
    rw [List.length_cons, List.length_map]
    omega
  clear xr hrl s6
  rintro σ' H6 ⟨r, ms, rfl, s6, xr, hrl⟩
  refine ⟨fun σ' H' => ∃ (r : Addr) (ms : List Int) (k1 k6 : Option V), σ' = [some (.ref p), k1, some (.int (i : Int)), k3, some (.ref r), k5, k6] ∧ Same H H' ∧ H' r = some (.lst (ms.map V.int)) ∧ ms.length ≤ 1200, ?_, ?_⟩
  · refine PU.arm (pu_eq (mi_op (mi_cell (k := 0) rfl (s6.seq hS) mi_c rfl) mi_c (by show (0 : Int) < 27; decide)) mi_c) (fun H7 s7 _ => ?_) fun H7 s7 _ => ⟨r, ms, _, _, rfl, s6.trans s7, s7 _ _ xr, hrl⟩
    obtain ⟨wy, hwy, hw3⟩ : ∃ wy : Nat, (zs[0]?).getD (0 : Int) / 27 % 3 = (wy : Int) ∧ wy < 3 := ⟨((zs[0]?).getD (0 : Int) / 27 % 3).toNat, by omega, by omega⟩
    refine mi_set (MI.to (mi_op (mi_op (mi_cell (k := 0) rfl ((s6.trans s7).seq hS) mi_c rfl) mi_c ⟨by decide, by decide⟩) mi_c (by show (0 : Int) < 3; decide)) hwy) fun H8 s8 => ?_
    have s68 := s6.trans (s7.trans s8)
    have hb10 : IsBits [1, 0] := fun x hx => by
      simp at hx
      exact hx.symm
    have b1 : IsBits [1] := fun x hx => .inr (List.mem_singleton.mp hx)
    have b0 : IsBits [0] := fun x hx => .inl (List.mem_singleton.mp hx)
    refine ml_set (ml_cat (xs := [1] ++ (List.replicate (2046 + wy) [(1 : Int), 0]).flatten) (ml_cat (ml_lst (ma_cons mi_c ma_nil) (by show 1 ≤ 500000; decide)).v (ml_rep (j := 2046 + wy) (ml_lst (ma_cons mi_c (ma_cons mi_c ma_nil)) (by show 2 ≤ 500000; decide)).v (mi_op0 mi_c (mi_var rfl)) (by omega) (by show 2 * _ ≤ 500000; omega) (by omega)).v ?_).v (ml_lst (ma_cons mi_c ma_nil) (by show 1 ≤ 500000; decide)).v ?_) fun b9 H9 _ s9 x9 => ?_
    · rw [len_rep]
      show 1 + (2046 + wy) * 2 ≤ 500000
      omega
    · rw [List.length_append, len_rep]
      show 1 + (2046 + wy) * 2 + 1 ≤ 500000
      omega
    refine ⟨fun σ' H' => ∃ (b : Addr) (ns : List Int), σ' = [some (.ref p), some (.ref b), some (.int (i : Int)), k3, some (.ref r), k5, some (.int (wy : Int))] ∧ Same H H' ∧ H' b = some (.lst (ns.map V.int)) ∧ IsBits ns ∧ ns.length ≤ 4200, ?_, ?_⟩
    · refine PU.arm (pu_eq (mi_var rfl) mi_c) (fun H10 s10 _ => ?_) fun H10 s10 _ => ⟨b9, _, rfl, s68.trans (s9.trans s10), s10 _ _ x9, isBits_append (isBits_append b1 (isBits_rep2 hb10 _)) b0, ?_⟩
      · refine ml_set (ml_cat (ml_rep (j := 2048) (ml_lst (ma_cons mi_c ma_nil) (by show 1 ≤ 500000; decide)).v mi_c rfl (by show 1 * 2048 ≤ 500000; decide) (by decide)).v (ml_rep (j := 2048) (ml_lst (ma_cons mi_c ma_nil) (by show 1 ≤ 500000; decide)).v mi_c rfl (by show 1 * 2048 ≤ 500000; decide) (by decide)).v ?_) fun b11 H11 _ s11 x11 => ⟨b11, _, rfl, s68.trans (s9.trans (s10.trans s11)), x11, isBits_append (isBits_rep2 b1 _) (isBits_rep2 b0 _), ?_⟩
        · rw [len_rep, len_rep]
          decide
        · rw [List.length_append, len_rep, len_rep]
          decide
      · rw [List.length_append, List.length_append, len_rep]
        show 1 + (2046 + wy) * 2 + 1 ≤ 4200
        omega
    rintro σ' H10 ⟨b10, ns10, rfl, s10, x10, hb10, hl10⟩
    exact ⟨_, rfl, b10, ns10, rfl, SqL.of x10, hb10, hl10, fun r11 H11 _ s11 lows11 hlw11 x11 => ⟨r11, _, _, _, rfl, s10.trans s11, x11, by have := treeO_few hb10 hlw11 hl10; omega⟩⟩
  clear xr hrl s6
  rintro σ' H6 ⟨r, ms, k1, k6, rfl, s6, xr, hrl⟩
  exact ⟨_, rfl, q r _ ms s6 xr (by omega)⟩
/-- [.. for i in range(lo, hi, st)] -/
theorem comp_itsA {lo st : Int} {n : Nat} {cap : L2.St} {tt : TT} {te : TE} {Qf : Addr → Hp → Prop} {H : Hp} (f : Nat → Int) (hl : n < sizeLine)
    (htt : ∀ (z : Int) (H' : Hp) (Q : Bool → Hp → Prop), Q true H' → tt (some (.int z) :: cap) H' Q) (hte : ∀ (i : Nat) (H' : Hp) (Q : VK), i < n → Same H H' → (∀ H'', Same H' H'' → Q (.int (f i)) H'') → te (some (.int (lo + i * st)) :: cap) H' Q)
    (q : ∀ D X, H D = none → Same H X → X D = some (.lst (((List.range n).map f).map V.int)) → Qf D X) : rdComp (Its lo st n) cap tt te Qf H := by
  intro D hD
  refine ⟨fun i m ys H1 => m = n - i ∧ i ≤ n ∧ ys = ((List.range i).map f).map V.int ∧ Same H H1 ∧ H1 D = some (.lst ys), ⟨_, rfl, Nat.zero_le _, rfl, same_new hD _, upd_same⟩, ?_⟩
  rintro i m ys H1 ⟨rfl, hi, rfl, sm, hD1⟩
  by_cases hlt : i < n
  · refine .inr ⟨hlt, fun v H2 y => ?_⟩
    obtain ⟨rfl, rfl⟩ := y
    refine htt _ _ _ ?_
    rw [if_pos rfl]
    refine hte i _ _ hlt sm fun H3 s3 => ⟨s3 _ _ hD1, ?_, n - (i + 1), by omega, rfl, hlt, ?_, same_set (sm.trans s3) hD _, upd_same⟩
    · rw [List.length_map, List.length_map, List.length_range]
      omega
    · rw [List.range_succ, List.map_append, List.map_append]
      rfl
  · have e : i = n := by omega
    subst e
    exact .inl ⟨Nat.le_refl _, q D H1 hD sm hD1⟩
/-- [.. for k in range(n)], items that are there -/
theorem comp_rngV {lo : Int} {n : Nat} {cap : L2.St} {tt : TT} {te : TE} {Qf : Addr → Hp → Prop} {H : Hp} (xs : List Int) (hx : xs.length = n) (hl : n < sizeLine)
    (htt : ∀ (z : Int) (H' : Hp) (Q : Bool → Hp → Prop), Q true H' → tt (some (.int z) :: cap) H' Q) (hte : ∀ (i : Nat) (z : Int) (H' : Hp) (Q : VK), xs[i]? = some z → Same H H' → Q (.int z) H' → te (some (.int (lo + i)) :: cap) H' Q)
    (q : ∀ D X, H D = none → Same H X → X D = some (.lst (xs.map V.int)) → Qf D X) : rdComp (Itr lo n) cap tt te Qf H := by
  intro D hD
  refine ⟨fun i m ys H1 => m = n - i ∧ i ≤ n ∧ ys = (xs.take i).map V.int ∧ Same H H1 ∧ H1 D = some (.lst ys), ⟨_, rfl, Nat.zero_le _, rfl, same_new hD _, upd_same⟩, ?_⟩
  rintro i m ys H1 ⟨rfl, hi, rfl, sm, hD1⟩
  by_cases hlt : i < n
  · refine .inr ⟨hlt, fun v H2 y => ?_⟩
    obtain ⟨rfl, rfl⟩ := y
    refine htt _ _ _ ?_
    rw [if_pos rfl]
    have ei := List.getElem?_eq_getElem (show i < xs.length by omega)
    refine hte i _ _ _ ei sm ⟨hD1, ?_, n - (i + 1), by omega, rfl, hlt, ?_, same_set sm hD _, upd_same⟩
    · rw [List.length_map, List.length_take]
      omega
    · rw [List.take_add_one, ei, List.map_append]
      rfl
  · have e : i = n := by omega
    subst e
    refine .inl ⟨Nat.le_refl _, q D H1 hD sm ?_⟩
    rw [List.take_of_length_le (by omega)] at hD1
    exact hD1
theorem octs_pair {xs : List Int} (h : ∀ x ∈ xs, 0 ≤ x ∧ x < 65536) {j : Nat} {x : Int} (e : xs[j]? = some x) : (xs.flatMap fun x => octs x 2)[2 * j]? = some (x % 256) ∧ (xs.flatMap fun x => octs x 2)[2 * j + 1]? = some (x / 256) := by
  have hc := flat_cut (m := 2) xs j x e
  have hx := h x (List.mem_of_getElem? e)
  rw [octs_two hx.1 hx.2] at hc
  constructor
  · have := congrArg (fun l : List Int => l[0]?) hc
    simp only [List.getElem?_take_of_lt (show 0 < 2 by decide), List.getElem?_drop] at this
    exact this
  · have := congrArg (fun l : List Int => l[1]?) hc
    simp only [List.getElem?_take_of_lt (show 1 < 2 by decide), List.getElem?_drop] at this
    exact this
theorem fro_four {t : Int} {ns rest : List Int} (hb : IsBits ns) {k : Nat} (hk : k < many ns.length) : ∃ a b c d : Int, (fro t ns rest)[3 + 4 * k]? = some a ∧ (fro t ns rest)[3 + 4 * k + 1]? = some b ∧ (fro t ns rest)[3 + 4 * k + 2]? = some c ∧ (fro t ns rest)[3 + 4 * k + 3]? = some d ∧ a + 256 * b + 65536 * (c + 256 * d) = blkAt ns k := by
  have hc := fro_block (t := t) (rest := rest) hk
  have hr := blkAt_range hb k
  have hv := valO_octs (blkAt ns k) 4 hr.1 hr.2
  have get : ∀ j, j < 4 → (fro t ns rest)[3 + 4 * k + j]? = (octs (blkAt ns k) 4)[j]? := fun j hj => by
    have := congrArg (fun l : List Int => l[j]?) hc
    simp only [List.getElem?_take_of_lt hj, List.getElem?_drop] at this
    exact this
  rw [octs_four] at hv get
  have e1 : blkAt ns k / 256 ^ 0 = blkAt ns k := by rw [Int.pow_zero, Int.ediv_one]
  refine ⟨_, _, _, _, (get 0 (by decide)).trans rfl, (get 1 (by decide)).trans rfl, (get 2 (by decide)).trans rfl, (get 3 (by decide)).trans rfl, ?_⟩
  simp only [valO] at hv
  generalize blkAt ns k / 256 ^ 0 % 256 = u0 at *
  generalize blkAt ns k / 256 ^ 1 % 256 = u1 at *
  generalize blkAt ns k / 256 ^ 2 % 256 = u2 at *
  generalize blkAt ns k / 256 ^ 3 % 256 = u3 at *
  omega
def sp_opened_good (Pl : Addr) : Sp := fun vs H Q _ => ∃ (p dp : Addr) (os : List Int), vs = [.ref p, .ref dp] ∧ H p = some (.lst (os.map V.int)) ∧ H dp = some (.lst ((dsO os).map V.int)) ∧ os.length ≤ 2000 ∧ GoodT os ∧ TabAt H Pl (posOf i_look_of) T_look.qual ∧ ∀ H', SameT Pl H H' → TabAt H' Pl (posOf i_look_of) T_look.qual → Q (.bl true) H'
theorem ok_law_opened (T : Tx K mg a) (B : Bs mg base a) : FnOk P w K mg base CX0 14 a.f_law_opened a.fd_law_opened ["_law_octets_here", "_law_depths"] (sp_opened_good a.tP_look_of) := by
  refine T.D_law_opened.F.ok sc_law_opened (fun vs H Q E h => ?_) (fun cdv A outer s H vs Q E hr h => ?_)
  · obtain ⟨p, dp, os, rfl, _⟩ := h
    rfl
  obtain ⟨p, dp, os, rfl, hp, hdp, hl, hg, hT, q⟩ := h
  refine ⟨_, (pss_cons (ps_set (i := 2) sc_law_opened.nd rfl (Or.inl rfl) (pe_callTy call_list_of rfl T.b_list Tw.bt_list (pa_cons (pv 0) pa_nil)))
    (pss_cons (ps_set (i := 3) sc_law_opened.nd rfl (Or.inl rfl) (pe_cD T.D_law_told (ok_law_told T B) (by decide) hr pass0 rfl (pa_cons pe_int (pa_cons (pv 2) pa_nil))))
    (pss_cons (ps_if (pt_cmpR (op_neD hr.units) (pv 2) (pv 0) (nomark _)) (pss_one (ps_ret pe_bl)) pss_nil)
    (pss_cons (ps_asg (pe_op op_sub pe_int (pe_ix ix_list (pv 2) pe_int (fun _ _ => rfl))) (pg_sub (pv 2) pe_int set_list))
    (pss_cons (ps_if (PW.pt (pw_or (pt_not (pt_val (pe_callB call_isi rfl T.b_isinstance Tw.bt_isinstance (pa_cons (pv 3) (pa_cons (pe_bltn (v := .ty "tuple") rfl T.b_tuple Tw.bt_tuple rfl) pa_nil))))) (pw_or1 (pt_cmpR op_ne (pe_callB call_len_seq rfl T.b_len Tw.bt_len (pa_cons (pv 3) pa_nil)) pe_int (nomark _))))) (pss_one (ps_ret pe_bl)) pss_nil)
    (pss_cons (ps_asg (pv 3) (pg_tup rfl (pgs_cons (pg_name (i := 4) sc_law_opened.nd rfl (Or.inl rfl)) (pgs_cons (pg_name (i := 5) sc_law_opened.nd rfl (Or.inr rfl)) pgs_nil))))
    (pss_cons (ps_if (PW.pt (pw_or (pt_not (pt_val (pe_callB call_isi rfl T.b_isinstance Tw.bt_isinstance (pa_cons (pv 4) (pa_cons (pe_bltn (v := .ty "tuple") rfl T.b_tuple Tw.bt_tuple rfl) pa_nil))))) (pw_or1 (pt_cmpR op_ne (pe_callB call_len_seq rfl T.b_len Tw.bt_len (pa_cons (pv 4) pa_nil)) pe_int (nomark _))))) (pss_one (ps_ret pe_bl)) pss_nil)
    (pss_cons (ps_set (i := 6) sc_law_opened.nd rfl (Or.inl rfl) (pe_op op_fdiv (pe_op op_add (pe_op op_mul pe_int (pe_callB call_len_seq rfl T.b_len Tw.bt_len (pa_cons (pv 1) pa_nil))) pe_int) pe_int))
    (pss_cons (ps_set (i := 7) sc_law_opened.nd rfl (Or.inl rfl) (pe_op op_fdiv (pe_callB call_len_seq rfl T.b_len Tw.bt_len (pa_cons (pe_ix ix_tup (pv 4) pe_int (fun _ _ => rfl)) pa_nil)) pe_int))
    (pss_cons (ps_set (i := 8) sc_law_opened.nd rfl (Or.inl rfl) (pe_op op_cat (pe_lst (pa_cons (pe_ix ix_tup (pv 4) pe_int (fun _ _ => rfl)) pa_nil)) (pe_comp rfl (CompOk.one (j := 5) rfl (Or.inl rfl) rfl rfl (Or.inl rfl)) (pi_range1 rfl T.b_range (pa_cons (pv 6) pa_nil)) (fun _ _ _ _ => pts_nil) (fun _ _ _ _ => (pe_callC ((ok_look T).mono (by decide)) hr (i := 1) rfl (pa_cons (pv 0) pa_nil))))))
    (pss_cons (ps_set (i := 8) sc_law_opened.nd rfl (Or.inl rfl) (pe_op op_cat (pe_op op_cat (pv 8) (pe_callTy call_list_of rfl T.b_list Tw.bt_list (pa_cons (pe_ix ix_tup (pv 4) pe_int (fun _ _ => rfl)) pa_nil))) (pe_callTy call_list_of rfl T.b_list Tw.bt_list (pa_cons (pe_slice sl_tup (pe_ix ix_tup (pv 4) pe_int (fun _ _ => rfl)) (po_some (pv 7)) (po_some (pe_op op_add (pv 7) (pv 6)))) pa_nil))))
    (pss_cons (ps_set (i := 9) sc_law_opened.nd rfl (Or.inl rfl) (pe_lst (pa_cons (pe_op op_mul pe_int (pe_callB call_len_seq rfl T.b_len Tw.bt_len (pa_cons (pv 1) pa_nil))) pa_nil)))
    (pss_cons (ps_for PassesOwn.never rfl (pi_rangeS rfl T.b_range (pa_cons pe_int (pa_cons (pe_op op_add pe_int (pe_op op_mul pe_int (pv 6))) (pa_cons pe_int pa_nil)))) (pg_name (i := 10) sc_law_opened.nd rfl (Or.inl rfl)) (pss_cons (ps_set (i := 11) sc_law_opened.nd rfl (Or.inl rfl) (pe_op op_add (pe_ix ix_list (pv 0) (pe_op op_add (pv 10) pe_int) (fun _ _ => rfl)) (pe_op op_mul pe_int (pe_ix ix_list (pv 0) (pe_op op_add (pv 10) pe_int) (fun _ _ => rfl)))))
    (pss_one (ps_expr (pe_bm PySem.F.plainAttrs_list PySem.F.slot_list_append PySem.F.type_list_append mt_append (pv 9) (pa_cons (pe_op op_add (pe_op op_add (pe_ix ix_list (pv 0) (pv 10) (fun _ _ => rfl)) (pe_op op_mul pe_int (pe_ix ix_list (pv 0) (pe_op op_add (pv 10) pe_int) (fun _ _ => rfl)))) (pe_op op_mul pe_int (pv 11))) pa_nil))))))
    (pss_cons (ps_set (i := 9) sc_law_opened.nd rfl (Or.inl rfl) (pe_op op_cat (pv 9) (pe_comp rfl (CompOk.one (j := 0) rfl (Or.inl rfl) rfl rfl (Or.inl rfl)) (pi_rangeS rfl T.b_range (pa_cons (pe_op op_add pe_int (pe_op op_mul pe_int (pv 6))) (pa_cons (pe_callB call_len_seq rfl T.b_len Tw.bt_len (pa_cons (pv 0) pa_nil)) (pa_cons pe_int pa_nil)))) (fun _ _ _ _ => pts_nil) (fun _ _ _ _ => (pe_op op_add (pe_ix (show IxR _ (rIxL K) from ix_list) (pv 1) (pv 0) (fun _ _ => rfl)) (pe_op op_mul pe_int (pe_ix (show IxR _ (rIxL K) from ix_list) (pv 1) (pe_op op_add (pv 0) pe_int) (fun _ _ => rfl))))))))
    (pss_one (ps_ret (pe_and (pe_cmpR (op_eqD hr.units) (pe_comp rfl CompOk.zero (pi_list (pv 8)) (fun _ _ _ _ => (pts_one (pt_not (pt_val (pe_cD T.D_law_whole (ok_law_whole T) (by decide) hr pass0 rfl (pa_cons (pv 0) pa_nil)))))) (fun _ _ _ _ => (pv 0))) (pe_lst pa_nil) (nomark _)) (pe_one (pe_cmpR (op_eqD hr.units) (pv 8) (pv 9) (nomark _)))))))))))))))))))), ?_⟩
  refine ⟨_, rfl, p, _, rfl, .inl (SqL.of hp), fun hd hhd => ?_⟩
  have s1 := same_new hhd (.lst (os.map V.int))
  have x1 : upd H hd (.lst (os.map V.int)) hd = some (.lst (os.map V.int)) := upd_same
  generalize upd H hd (.lst (os.map V.int)) = H1 at *
  have hT1 := TabAt.same hT s1
  refine ⟨_, rfl, hd, os, 1, rfl, x1, hl, fun n => absurd hg n, .inr ⟨rfl, hT1, fun _ r t ah nd bl g lows S xs cs H2 hbl st hT2 xr kb cg => ?_⟩⟩
  have nPh : hd ≠ a.tP_look_of := TabAt.ne hT1 x1 nofun
  have x2 := st _ _ x1 nPh
  have hp2 := st _ _ (s1 _ _ hp) (TabAt.ne hT1 (s1 _ _ hp) nofun)
  have hdp2 := st _ _ (s1 _ _ hdp) (TabAt.ne hT1 (s1 _ _ hdp) nofun)
  have npd : p ≠ hd := ne_of_none hp hhd
  have ndd : dp ≠ hd := ne_of_none hdp hhd
  refine ⟨_, rfl, _, rfl, .inl ⟨hd, p, _, _, rfl, rfl, SqL.of x2, SqL.of hp2, _, rfl, iteNS rfl ?_⟩⟩
  obtain ⟨ho, hok, h4, htree, lows', hlo', eos⟩ := hg
  rw [hlo'.uniq kb.low] at eos
  have hbits := toldB_bits os
  obtain ⟨hgd, ebk⟩ := dsO_good htree
  have hnl := brk_len hgd
  rw [ebk] at hnl
  obtain ⟨ns, ens⟩ : ∃ ns, toldB os = ns := ⟨_, rfl⟩
  obtain ⟨ds, eds⟩ : ∃ ds, dsO os = ds := ⟨_, rfl⟩
  rw [ens] at kb h4 htree hlo' eos hbits hnl ebk
  rw [eds] at hdp hdp2 hgd hnl ebk
  have hol := treeO_length (lows := lows) hbits
  rw [eos, kb.low.1] at hol
  have hm1 : 1 ≤ many ns.length := by
    have := htree.1
    unfold many
    omega
  have hm2 : many ns.length ≤ 128 := by
    unfold many
    omega
  have e3 : os[3]? = some os[3] := List.getElem?_eq_getElem (by omega)
  have e3V : atI (os.map V.int) 3 = some (.int os[3]) := atI_int e3
  refine ⟨_, rfl, hd, _, _, _, rfl, rfl, SqL.of x2, e3V, _, _, rfl, rfl, ?_⟩
  refine ⟨_, rfl, hd, _, _, 3, rfl, rfl, x2, (show ixN (os.map V.int).length 3 = some 3 by rw [show (3 : Int) = ((3 : Nat) : Int) from rfl]; exact ixN_nat (by rw [List.length_map]; omega)), ?_⟩
  have nbd : bl ≠ hd := fun z => by rw [z, x1] at hbl; cases hbl
  have kp : ∀ b o, H2 b = some o → (∀ zs, o ≠ .lst zs) → upd H2 hd (.lst ((os.map V.int).set 3 (.int (255 - os[3])))) b = some o := fun b o e n => by
    rw [upd_ne (fun z => by rw [z, x2] at e; cases e; exact n _ rfl)]
    exact e
  have xr3 := kp _ _ xr nofun
  have xt3 := kp _ _ kb.tab.tup nofun
  have xa3 := kp _ _ kb.tab.ahs nofun
  have xn3 := kp _ _ kb.nds nofun
  have xb3 : upd H2 hd (.lst ((os.map V.int).set 3 (.int (255 - os[3])))) bl = some (.lst ((packs ns).map V.int)) := by
    rw [upd_ne nbd]
    exact kb.bls
  have hp3 : upd H2 hd (.lst ((os.map V.int).set 3 (.int (255 - os[3])))) p = some (.lst (os.map V.int)) := by
    rw [upd_ne npd]
    exact hp2
  have hdp3 : upd H2 hd (.lst ((os.map V.int).set 3 (.int (255 - os[3])))) dp = some (.lst (ds.map V.int)) := by
    rw [upd_ne ndd]
    exact hdp2
  have cg3 : CloAt (upd H2 hd (.lst ((os.map V.int).set 3 (.int (255 - os[3]))))) g T_look cs [.ref bl] := cg.same fun b o e => kp _ _ e nofun
  have hT3 : TabAt (upd H2 hd (.lst ((os.map V.int).set 3 (.int (255 - os[3]))))) a.tP_look_of (posOf i_look_of) T_look.qual := TabAt.upd hT2 x2
  have st3 : SameT a.tP_look_of H (upd H2 hd (.lst ((os.map V.int).set 3 (.int (255 - os[3]))))) := fun b o e n => by
    rw [upd_ne (ne_of_none e hhd)]
    exact st _ _ (s1 _ _ e) n
  generalize upd H2 hd (.lst ((os.map V.int).set 3 (.int (255 - os[3])))) = H3 at *
  refine ⟨_, rfl, _, "tuple", _, true, rfl, .tup xr3, rfl, true, rfl, iteF ?_⟩
  refine ⟨_, rfl, r, _, rfl, .inr (SqT.of xr3), rfl, _, rfl, iteNS rfl ?_⟩
  refine ⟨_, rfl, r, _, rfl, SqT.of xr3, rfl, _, _, rfl, _, _, rfl, rfl, ?_⟩
  refine ⟨_, rfl, _, "tuple", _, true, rfl, .tup xt3, rfl, true, rfl, iteF ?_⟩
  refine ⟨_, rfl, t, _, rfl, .inr (SqT.of xt3), rfl, _, rfl, iteNS rfl ?_⟩
  have hll := kb.low.1
  have hlS : lows.length ≤ S := by
    obtain ⟨_, _, z, _⟩ := kb.sz
    exact z
  have hS0 := kb.sz.pos
  have hxl := kb.heap.len
  have hS4 := kb.sz.le (by omega)
  have eS : (xs.length : Int) / 2 = (S : Int) := by omega
  have em : (2 * (ds.length : Int) + 31) / 32 = (many ns.length : Int) := by
    unfold many
    omega
  refine mi_set (MI.to (mi_op (mi_op0 (mi_op mi_c (mi_len (mv_var rfl hdp3)) (.inl ⟨by decide, by decide⟩)) mi_c) mi_c ⟨by decide, by decide⟩) em) fun H4 s4 => ?_
  have xt4 := s4 _ _ xt3
  have xn4 := s4 _ _ xn3
  refine ⟨_, rfl, t, _, _, _, rfl, rfl, SqT.of xt4, rfl, nd, _, rfl, .inr (SqT.of xn4), _, _, rfl, rfl, ⟨by decide, by decide⟩, ?_⟩
  refine ⟨_, rfl, t, _, _, _, rfl, rfl, SqT.of xt4, rfl, (by show 1 ≤ sizeLine; decide), fun l1 hl1 => ?_⟩
  have s5 := same_new hl1 (.lst [.int (ns.length : Int)])
  refine ⟨_, rfl, (many ns.length : Int), rfl, by omega, by omega, ?_⟩
  rw [Int.toNat_natCast]
  obtain ⟨og, fdg, eg1, eg2⟩ : ∃ o fd, H3 g = some (exactO g o) ∧ o.data = .func fd := by
    obtain ⟨cd, doc, pm, ctv, oc, vs, t, h1, _⟩ := cg3.ex
    exact ⟨_, _, h1, rfl⟩
  refine comp_rngV (packs ns) (packs_length ns) (by rw [sizeLine_eq]; omega) (fun _ _ _ q => q) (fun i z H' Q hz sm q => ?_) fun D H6 hD s6 xD => ?_
  · have s36 := s4.trans (s5.trans sm)
    exact ⟨g, og, fdg, rfl, s36 _ _ eg1, eg2, _, rfl, s36 _ _ eg1, bl, (packs ns).map V.int, i, .int z, cs, by rw [Int.zero_add], cg3.same fun b o e => s36 _ _ e, s36 _ _ xb3, by rw [List.getElem?_map, hz]; rfl, q⟩
  have hpl : (packs ns).length = many ns.length := packs_length ns
  have hal : (ahd ns (many ns.length)).length = many ns.length + 1 := ahd_length ..
  refine ⟨l1, D, _, _, rfl, rfl, s6 _ _ upd_same, xD, ?_, fun l2 hl2 => ?_⟩
  · rw [List.length_map, hpl, sizeLine_eq]
    show 1 + _ ≤ _
    omega
  have s7 := s4.trans (s5.trans (s6.trans (same_new hl2 (.lst ([.int (ns.length : Int)] ++ (packs ns).map V.int)))))
  have x7 : upd H6 l2 (.lst ([.int (ns.length : Int)] ++ (packs ns).map V.int)) l2 = some (.lst (((ns.length : Int) :: packs ns).map V.int)) := by
    rw [upd_same]
    rfl
  generalize upd H6 l2 (.lst ([.int (ns.length : Int)] ++ (packs ns).map V.int)) = H7 at *
  refine ⟨_, rfl, _, rfl, t, _, _, _, rfl, rfl, SqT.of (s7 _ _ xt3), rfl, ah, _, rfl, .inr (SqT.of (s7 _ _ xa3)), fun c hc => ?_⟩
  have s8 := same_new hc (.lst ((ahd ns (many ns.length)).map V.int))
  refine ⟨l2, c, _, _, rfl, rfl, s8 _ _ x7, upd_same, ?_, fun l3 hl3 => ?_⟩
  · rw [List.length_map, List.length_map, hal, List.length_cons, hpl, sizeLine_eq]
    omega
  have s9 := s7.trans (s8.trans (same_new hl3 (.lst (((ns.length : Int) :: packs ns).map V.int ++ (ahd ns (many ns.length)).map V.int))))
  have x9 : upd (upd H7 c (.lst ((ahd ns (many ns.length)).map V.int))) l3 (.lst (((ns.length : Int) :: packs ns).map V.int ++ (ahd ns (many ns.length)).map V.int)) l3 = some (.lst (((ns.length : Int) :: packs ns ++ ahd ns (many ns.length)).map V.int)) := by
    rw [upd_same, List.map_append]
  generalize upd (upd H7 c (.lst ((ahd ns (many ns.length)).map V.int))) l3 (.lst (((ns.length : Int) :: packs ns).map V.int ++ (ahd ns (many ns.length)).map V.int)) = H9 at *
  refine ⟨_, rfl, t, _, _, _, rfl, rfl, SqT.of (s9 _ _ xt3), rfl, _, rfl, _, rfl, _, rfl, _, rfl, _, _, rfl, rfl, _, rfl, nd, _, rfl, SqT.of (s9 _ _ xn3), ?_, fun lo hlo => ?_⟩
  · rintro ⟨z, _⟩
    rw [eS, HT.sIx_nat] at z
    omega
  have ec : cutV xs (some ((xs.length : Int) / 2)) (some ((xs.length : Int) / 2 + (many ns.length : Int))) = lows.map V.int := by
    rw [eS, ← hll, show (S : Int) + (lows.length : Int) = ((S + lows.length : Nat) : Int) from by omega, cut_natV (by omega) (by omega), Nat.add_sub_cancel_left, heap_lows kb.sz kb.heap]
  rw [ec]
  refine ⟨lo, _, rfl, .inr (SqT.of upd_same), fun c2 hc2 => ?_⟩
  have s10 := (same_new hlo (.tup (lows.map V.int))).trans (same_new hc2 (.lst (lows.map V.int)))
  refine ⟨l3, c2, _, _, rfl, rfl, s10 _ _ x9, upd_same, ?_, fun l4 hl4 => ?_⟩
  · rw [List.length_map, List.length_map, List.length_append, hal, List.length_cons, hpl, hll, sizeLine_eq]
    omega
  obtain ⟨TL, eTL⟩ : ∃ TL : List Int, TL = (ns.length : Int) :: packs ns ++ ahd ns (many ns.length) ++ lows := ⟨_, rfl⟩
  have s11 := s9.trans (s10.trans (same_new hl4 (.lst (((ns.length : Int) :: packs ns ++ ahd ns (many ns.length)).map V.int ++ lows.map V.int))))
  have x11 : upd (upd (upd H9 lo (.tup (lows.map V.int))) c2 (.lst (lows.map V.int))) l4 (.lst (((ns.length : Int) :: packs ns ++ ahd ns (many ns.length)).map V.int ++ lows.map V.int)) l4 = some (.lst (TL.map V.int)) := by
    rw [upd_same, eTL, List.map_append (l₂ := lows)]
  generalize upd (upd (upd H9 lo (.tup (lows.map V.int))) c2 (.lst (lows.map V.int))) l4 (.lst (((ns.length : Int) :: packs ns ++ ahd ns (many ns.length)).map V.int ++ lows.map V.int)) = H11 at *
  have hTL : TL.length ≤ 1000 := by
    rw [eTL, List.length_append, List.length_append, List.length_cons, hpl, hal, hll]
    omega
  refine ml_set (ml_lst (ma_cons (MI.to (mi_op mi_c (mi_len (mv_var rfl (s11 _ _ hdp3))) (.inl ⟨by decide, by decide⟩)) (show (2 : Int) * (ds.length : Int) = (ns.length : Int) by omega)) ma_nil) (by show 1 ≤ 500000; decide)) fun du H12 hdu s12 x12 => ?_
  refine ⟨_, rfl, _, _, rfl, rfl, .inl ⟨by decide, by decide⟩, _, _, rfl, rfl, 3, 3 + 4 * many ns.length, 4, ?_, by omega, by omega, by decide, by decide, ?_⟩
  · show [V.int 3, V.int (3 + 4 * (many ns.length : Int)), V.int 4] = _
    rw [show (3 : Int) + 4 * (many ns.length : Int) = ((3 + 4 * many ns.length : Nat) : Int) by omega]
    rfl
  have en : (3 + 4 * many ns.length - 3 + (4 - 1)) / 4 = many ns.length := by omega
  rw [en]
  have hduH := s11.free hdu
  have s13 := s11.trans s12
  have hos := s13 _ _ hp3
  refine for_step (n := many ns.length) (fun i σ H' => (∃ k7 k10 k11, σ = [some (.ref p), some (.ref dp), some (.ref hd), some (.ref r), some (.ref t), some (.ref g), some (.int (many ns.length : Int)), k7, some (.ref l4), some (.ref du), k10, k11]) ∧ Same H11 H' ∧ H' du = some (.lst (((ns.length : Int) :: (List.range i).map (blkAt ns)).map V.int))) ⟨⟨_, none, none, rfl⟩, s12, x12⟩ ?_ ?_
  · rintro i σ X hi ⟨⟨k7, k10, k11, rfl⟩, sX, xdu⟩
    have hosX := (s11.trans sX) _ _ hp3
    obtain ⟨u0, u1, u2, u3, f0, f1, f2, f3, ef⟩ := fro_four (t := 2) (rest := (ahd ns (many ns.length)).flatMap (fun x => octs x 2) ++ lows.flatMap (fun x => octs x 2)) hbits hi
    rw [← treeO_fro, eos] at f0 f1 f2 f3
    refine mi_set (mi_op0 (mi_ixL (j := 3 + 4 * i + 2) (mv_var rfl hosX) (mi_op0 (mi_var rfl) mi_c) (by omega) f2) (mi_op mi_c (mi_ixL (j := 3 + 4 * i + 3) (mv_var rfl hosX) (mi_op0 (mi_var rfl) mi_c) (by omega) f3) (.inl ⟨by decide, by decide⟩))) fun X2 sX2 => ?_
    have hosX2 := sX2 _ _ hosX
    refine ⟨_, rfl, .inl ⟨rfl, _, SqL.of (sX2 _ _ xdu)⟩, ?_⟩
    refine (MI.to (mi_op0 (mi_op0 (mi_ixL (j := 3 + 4 * i) (mv_var rfl hosX2) (mi_var rfl) (by omega) f0) (mi_op mi_c (mi_ixL (j := 3 + 4 * i + 1) (mv_var rfl hosX2) (mi_op0 (mi_var rfl) mi_c) (by omega) f1) (.inl ⟨by decide, by decide⟩))) (mi_op mi_c (mi_var rfl) (.inl ⟨by decide, by decide⟩))) ef) _ _ (.refl _) fun X3 sX3 => ?_
    have xdu3 := (sX2.trans sX3) _ _ xdu
    refine ⟨du, _, _, rfl, rfl, xdu3, ?_, ⟨_, _, _, rfl⟩, same_set (sX.trans (sX2.trans sX3)) hdu _, ?_⟩
    · rw [List.length_map, List.length_cons, List.length_map, List.length_range, sizeLine_eq]
      omega
    · rw [upd_same, List.range_succ, List.map_append, ← List.cons_append, List.map_append (l₂ := List.map (blkAt ns) [i])]
      rfl
  rintro σ X ⟨⟨k7, k10, k11, rfl⟩, sX, xdu⟩
  have s14 := s11.trans sX
  have hosX := s14 _ _ hp3
  have eol : (os.map V.int).length = os.length := List.length_map ..
  refine ⟨_, rfl, _, rfl, _, _, rfl, rfl, .inl ⟨by decide, by decide⟩, _, _, rfl, rfl, _, rfl, p, _, rfl, .inl (SqL.of hosX), 3 + 4 * many ns.length, os.length, 2, ?_, by omega, by omega, by decide, by decide, ?_⟩
  · show [V.int (3 + 4 * (many ns.length : Int)), V.int (((os.map V.int).length : Nat) : Int), V.int 2] = _
    rw [eol, show (3 : Int) + 4 * (many ns.length : Int) = ((3 + 4 * many ns.length : Nat) : Int) by omega]
    rfl
  have en2 : (os.length - (3 + 4 * many ns.length) + (2 - 1)) / 2 = 2 * many ns.length + 1 := by omega
  rw [en2]
  have edr : os.drop (3 + 4 * many ns.length) = (ahd ns (many ns.length) ++ lows).flatMap fun x => octs x 2 := by
    rw [← eos, treeO_fro, ← List.drop_drop, fro_three, List.flatMap_append]
    have hfl : ((packs ns).flatMap fun x => octs x 4).length = 4 * many ns.length := by rw [flat_len, hpl]
    rw [List.drop_append, hfl, List.drop_of_length_le (by rw [hfl]; exact Nat.le_refl _), List.nil_append, Nat.sub_self, List.drop_zero]
  have htl : (ahd ns (many ns.length) ++ lows).length = 2 * many ns.length + 1 := by
    rw [List.length_append, hal, hll]
    omega
  have hrange : ∀ x ∈ ahd ns (many ns.length) ++ lows, 0 ≤ x ∧ x < 65536 := fun x hx => by
    rcases List.mem_append.mp hx with hx | hx
    · obtain ⟨k, hk⟩ := List.getElem?_of_mem hx
      have hkl := (List.getElem?_eq_some_iff.mp hk).1
      rw [hal] at hkl
      rw [ahd_get (by omega)] at hk
      cases hk
      have := bits_sum_le (ns := ns.take (32 * k)) (hbits.take _)
      have hlt : (ns.take (32 * k)).length ≤ 4096 := by
        rw [List.length_take]
        omega
      omega
    · obtain ⟨k, hk⟩ := List.getElem?_of_mem hx
      obtain ⟨⟨kk, _, _, a3, rfl⟩, _⟩ := kb.low.2 k x hk
      have h1 := htree.pos a3
      have h2 := brk_ht_le hgd (k := kk) (by rw [ebk]; exact a3)
      rw [ebk] at h2
      omega
  obtain ⟨ts, ets⟩ : ∃ ts, ahd ns (many ns.length) ++ lows = ts := ⟨_, rfl⟩
  rw [ets] at edr htl hrange
  refine comp_itsA (fun j => (ts[j]?).getD 0) (by rw [sizeLine_eq]; omega) (fun _ _ _ q => q) (fun j H' Q hj sm q => ?_) fun D2 X2 hD2 sX2 xD2 => ?_
  · have ej : ts[j]? = some ts[j] := List.getElem?_eq_getElem (by omega)
    have hpr := octs_pair hrange ej
    rw [← edr, List.getElem?_drop, List.getElem?_drop] at hpr
    have hosJ := sm _ _ hosX
    have hxr := hrange ts[j] (List.getElem_mem _)
    refine (MI.to (mi_op0 (mi_ixL (j := 3 + 4 * many ns.length + 2 * j) (mv_var rfl hosJ) (mi_var rfl) (by omega) hpr.1) (mi_op mi_c (mi_ixL (j := 3 + 4 * many ns.length + (2 * j + 1)) (mv_var rfl hosJ) (mi_op0 (mi_var rfl) mi_c) (by omega) hpr.2) (.inl ⟨by decide, by decide⟩))) (show _ = (ts[j]?).getD 0 by rw [ej, Option.getD_some]; omega)) _ _ (.refl _) q
  have ecol : (List.range (2 * many ns.length + 1)).map (fun j => (ts[j]?).getD 0) = ts := by
    refine List.ext_getElem? fun j => ?_
    by_cases hj : j < 2 * many ns.length + 1
    · rw [List.getElem?_map, List.getElem?_range hj, Option.map_some, List.getElem?_eq_getElem (by omega)]
      rfl
    · rw [List.getElem?_eq_none (by rw [List.length_map, List.length_range]; omega), List.getElem?_eq_none (by omega)]
  rw [ecol] at xD2
  refine ⟨du, D2, _, _, rfl, rfl, sX2 _ _ xdu, xD2, ?_, fun l5 hl5 => ?_⟩
  · rw [List.length_map, List.length_map, List.length_cons, List.length_map, List.length_range, htl, sizeLine_eq]
    omega
  have s15 := s14.trans (sX2.trans (same_new hl5 (.lst (((ns.length : Int) :: (List.range (many ns.length)).map (blkAt ns)).map V.int ++ ts.map V.int))))
  have x15 : upd X2 l5 (.lst (((ns.length : Int) :: (List.range (many ns.length)).map (blkAt ns)).map V.int ++ ts.map V.int)) l5 = some (.lst (TL.map V.int)) := by
    rw [upd_same, eTL, ← ets, ← List.map_append]
    unfold packs
    simp
  have xTL : upd X2 l5 (.lst (((ns.length : Int) :: (List.range (many ns.length)).map (blkAt ns)).map V.int ++ ts.map V.int)) l4 = some (.lst (TL.map V.int)) := (sX.trans (sX2.trans (same_new hl5 _))) _ _ x11
  generalize upd X2 l5 (.lst (((ns.length : Int) :: (List.range (many ns.length)).map (blkAt ns)).map V.int ++ ts.map V.int)) = X3 at *
  refine ⟨_, rfl, l4, rfl, ⟨_, SqL.of xTL⟩, ?_⟩
  refine comp_filtS (fun z => false) (SqL.of xTL) (by rw [sizeLine_eq]; omega) (fun z H' Q _ q => ⟨_, rfl, z, rfl, true, rfl, q⟩) (fun z H' Q _ q => ⟨_, rfl, q⟩) fun D3 hD3 => ?_
  have e0 : TL.filter (fun _ => false) = [] := by simp
  rw [e0]
  have s16 := same_new hD3 (.lst ([].map V.int))
  refine ⟨(by show 0 ≤ sizeLine; decide), fun l6 hl6 => .inl ⟨D3, l6, [], [], rfl, rfl, SqL.of (same_new hl6 _ _ _ upd_same), SqL.of upd_same, _, rfl, iteT ?_⟩⟩
  have s17 := s16.trans (same_new hl6 (.lst []))
  refine ⟨_, rfl, _, rfl, .inl ⟨l4, l5, _, _, rfl, rfl, SqL.of (s17 _ _ xTL), SqL.of (s17 _ _ x15), ?_⟩⟩
  rw [decide_eq_true rfl]
  exact q _ (SameT.trans st3 (SameT.of (s15.trans s17))) (TabAt.same hT3 (s15.trans s17))
theorem tup4_same (n : Int) (x y z : Bool) : SeqAt.shaped (.tuple [.int n, .bool x, .bool y, .bool z]) = true ∧ PyData.eqv (.tuple [.int n, .bool x, .bool y, .bool z]) (.tuple [.int n, .bool x, .bool y, .bool z]) = true := by
  have hc : (PyData.tuple [.int n, .bool x, .bool y, .bool z]).canLay0 = true := by
    simp only [PyData.canLayAll0, PyData.canLay0, Bool.and_self]
  refine ⟨?_, SeqAt.eqv_refl _ hc⟩
  unfold SeqAt.shaped
  rw [hc, Bool.true_and]
  refine decide_eq_true ?_
  simp only [PyData.depthAll, PyData.depth]
  omega
theorem ne_lst {K : PySem.W.Frag} {H : Hp} {r1 r2 : Addr} {ns : List Int} {Q : VK} (o1 : H r1 = some (.lst (ns.map V.int))) (o2 : H r2 = some (.lst (ns.map V.int))) (q : Q (.bl false) H) : rNeL K (.ref r1) (.ref r2) H Q ∨ rNeP K (.ref r1) (.ref r2) H Q := by
  refine .inl ⟨r1, r2, _, _, rfl, rfl, SqL.of o1, SqL.of o2, ?_⟩
  rw [decide_eq_true rfl]
  exact q
theorem eq_lst {K : PySem.W.Frag} {H : Hp} {r1 r2 : Addr} {ns : List Int} {Q : VK} (o1 : H r1 = some (.lst (ns.map V.int))) (o2 : H r2 = some (.lst (ns.map V.int))) (q : Q (.bl true) H) : rEqL K (.ref r1) (.ref r2) H Q ∨ rEqP K (.ref r1) (.ref r2) H Q := by
  refine .inl ⟨r1, r2, _, _, rfl, rfl, SqL.of o1, SqL.of o2, ?_⟩
  rw [decide_eq_true rfl]
  exact q
theorem ne_rf {K : PySem.W.Frag} {H : Hp} {r1 r2 : Addr} {Q : VK} (o1 : H r1 = some RF) (o2 : H r2 = some RF) (q : Q (.bl false) H) : rNeL K (.ref r1) (.ref r2) H Q ∨ rNeP K (.ref r1) (.ref r2) H Q := by
  refine .inr ⟨_, _, .tup (SqT.of o1) (.cons (.int _) (.cons (.bl _) (.cons (.bl _) (.cons (.bl _) .nil)))), .tup (SqT.of o2) (.cons (.int _) (.cons (.bl _) (.cons (.bl _) (.cons (.bl _) .nil)))), (tup4_same _ _ _ _).1, (tup4_same _ _ _ _).1, ?_⟩
  rw [(tup4_same _ _ _ _).2]
  exact q
theorem eq_rf {K : PySem.W.Frag} {H : Hp} {r1 r2 : Addr} {Q : VK} (o1 : H r1 = some RF) (o2 : H r2 = some RF) (q : Q (.bl true) H) : rEqL K (.ref r1) (.ref r2) H Q ∨ rEqP K (.ref r1) (.ref r2) H Q := by
  refine .inr ⟨_, _, .tup (SqT.of o1) (.cons (.int _) (.cons (.bl _) (.cons (.bl _) (.cons (.bl _) .nil)))), .tup (SqT.of o2) (.cons (.int _) (.cons (.bl _) (.cons (.bl _) (.cons (.bl _) .nil)))), (tup4_same _ _ _ _).1, (tup4_same _ _ _ _).1, ?_⟩
  rw [(tup4_same _ _ _ _).2]
  exact q
def sp_law (K : PySem.W.Frag) (Pl : Addr) : Sp := fun vs H Q _ => ∃ (s : Addr) (ns : List Int), vs = [.ref s] ∧ SqL K H s (ns.map V.int) ∧ ns.length ≤ 63 ∧ TabAt H Pl (posOf i_look_of) T_look.qual ∧ ∀ H', Q (.bl true) H'
theorem law_start {H : Hp} {s Pl : Addr} {ns : List Int} (hS : SqL K H s (ns.map V.int)) (hl : ns.length ≤ 63) (h1 : H Pl = some (.tbl #[])) : sp_law K Pl [.ref s] H (fun v _ => v = .bl true) fun _ _ _ => False :=
  ⟨s, ns, rfl, hS, hl, tab0 h1, fun _ => rfl⟩
theorem ok_law (T : Tx K mg a) (B : Bs mg base a) : FnOk P w K mg base CX0 15 a.f_law a.fd_law ["_law_script"] (sp_law K a.tP_look_of) := by
  refine T.D_law.F.ok sc_law (fun vs H Q E h => ?_) (fun cdv A outer s H vs Q E hr h => ?_)
  · obtain ⟨b, f, rfl, _⟩ := h
    rfl
  obtain ⟨sa, zs, rfl, hS, hl, hT, q⟩ := h
  refine ⟨_, (pss_cons (ps_set (i := 1) sc_law.nd rfl (Or.inl rfl) (pe_cD T.D_law_octets (ok_law_octets T) (by decide) hr pass0 rfl (pa_cons (pv 0) pa_nil)))
    (pss_cons (ps_set (i := 2) sc_law.nd rfl (Or.inl rfl) (pe_callTy call_list_of rfl T.b_list Tw.bt_list (pa_cons (pv 1) pa_nil)))
    (pss_cons (ps_set (i := 3) sc_law.nd rfl (Or.inl rfl) (pe_cD T.D_law_due (ok_law_due T) (by decide) hr pass0 rfl (pa_cons (pv 1) pa_nil)))
    (pss_cons (ps_set (i := 4) sc_law.nd rfl (Or.inl rfl) (pe_cD T.D_law_told (ok_law_told T B) (by decide) hr pass0 rfl (pa_cons pe_int (pa_cons (pv 2) pa_nil))))
    (pss_cons (ps_if (PW.pt (pw_or (pt_cmpR (op_neD hr.units) (pv 4) (pv 3) (nomark _)) (pw_or1 (pt_cmpR (op_neD hr.units) (pv 2) (pv 1) (nomark _))))) (pss_one (ps_ret pe_bl)) pss_nil)
    (pss_cons (ps_if (pt_not (pt_val (pe_callB call_isi rfl T.b_isinstance Tw.bt_isinstance (pa_cons (pv 4) (pa_cons (pe_bltn (v := .ty "list") rfl T.b_list Tw.bt_list rfl) pa_nil))))) (pss_one (ps_ret (pe_and (pe_cmpR (op_eqD hr.units) (pe_cD T.D_law_told (ok_law_told T B) (by decide) hr pass0 rfl (pa_cons pe_int (pa_cons (pv 2) pa_nil))) (pv 3) (nomark _)) (pe_one (pe_cmpR (op_eqD hr.units) (pv 2) (pv 1) (nomark _)))))) pss_nil)
    (pss_cons (ps_if (PW.pt (pw_or (pt_cmpR (op_neD hr.units) (pe_cD T.D_tree_octets (ok_tree_octets T) (by decide) hr pass0 rfl (pa_cons (pe_callTy call_list_of rfl T.b_list Tw.bt_list (pa_cons (pv 4) pa_nil)) pa_nil)) (pv 1) (nomark _)) (pw_or1 (pt_not (pt_val (pe_cD T.D_law_opened (ok_law_opened T B) (by decide) hr pass0 rfl (pa_cons (pv 1) (pa_cons (pv 3) pa_nil)))))))) (pss_one (ps_ret pe_bl)) pss_nil)
    (pss_cons (ps_expr (pe_bm PySem.F.plainAttrs_list PySem.F.slot_list_append PySem.F.type_list_append mt_append (pv 4) (pa_cons pe_int pa_nil)))
    (pss_one (ps_ret (pe_cmpR (op_eqD hr.units) (pe_cD T.D_law_told (ok_law_told T B) (by decide) hr pass0 rfl (pa_cons pe_int (pa_cons (pv 2) pa_nil))) (pv 3) (nomark _)))))))))))), ?_⟩
  refine ⟨_, rfl, sa, zs, rfl, hS, hl, fun ra H1 os s1 x1 hol => ?_⟩
  refine ⟨_, rfl, ra, _, rfl, .inl (SqL.of x1), fun hd hhd => ?_⟩
  have s2 := same_new hhd (.lst (os.map V.int))
  have x2 := s2 _ _ x1
  have y2 : upd H1 hd (.lst (os.map V.int)) hd = some (.lst (os.map V.int)) := upd_same
  generalize upd H1 hd (.lst (os.map V.int)) = H2 at *
  have hT2 := TabAt.same hT (s1.trans s2)
  by_cases hg : GoodT os
  · refine ⟨_, rfl, ra, os, rfl, x2, by omega, fun _ du H3 s3 x3 => ?_, fun n => absurd hg n⟩
    refine ⟨_, rfl, hd, os, 0, rfl, s3 _ _ y2, by omega, fun n => absurd hg n, .inl ⟨rfl, fun _ f H4 hf s4 x4 => ?_⟩⟩
    refine ⟨_, rfl, _, rfl, ne_lst x4 (s4 _ _ x3) ⟨_, rfl, iteF ?_⟩⟩
    have s34 := s3.trans s4
    refine ⟨_, rfl, _, rfl, ne_lst (s34 _ _ y2) (s34 _ _ x2) ⟨_, rfl, iteF ?_⟩⟩
    refine ⟨_, rfl, _, "list", _, true, rfl, .lst x4, rfl, true, rfl, iteF ?_⟩
    refine ⟨_, rfl, f, _, rfl, .inl (SqL.of x4), fun g hgn => ?_⟩
    have s5 := same_new hgn (.lst ((dsO os).map V.int))
    obtain ⟨hgd, ebk⟩ := dsO_good hg.2.2.2.1
    refine ⟨g, dsO os, rfl, upd_same, hg.dlen, hgd, fun r5 H5 lows _ s6 hlo x6 => ⟨_, rfl, ?_⟩⟩
    rw [ebk] at hlo x6
    obtain ⟨lows', hlo', eos⟩ := hg.2.2.2.2
    rw [hlo'.uniq hlo] at eos
    rw [eos] at x6
    have s45 := s4.trans (s5.trans s6)
    refine ne_lst x6 ((s3.trans s45) _ _ x2) ⟨_, rfl, iteF ?_⟩
    have hT5 := TabAt.same hT2 (s3.trans s45)
    have x5 := (s5.trans s6) _ _ x4
    refine ⟨_, rfl, _, rfl, ra, du, os, rfl, (s3.trans s45) _ _ x2, s45 _ _ x3, by omega, hg, hT5, fun H6 st6 hT6 => ⟨_, rfl, iteF ?_⟩⟩
    have kp : ∀ b o, H5 b = some o → (∀ ps, o ≠ .tbl ps) → H6 b = some o := fun b o e n => st6 b o e (TabAt.ne hT5 e n)
    have x7 := kp _ _ x5 nofun
    refine ⟨_, rfl, .inl ⟨rfl, _, SqL.of x7⟩, f, _, _, rfl, rfl, x7, by rw [List.length_map, sizeLine_eq]; have := hg.dlen; omega, ?_⟩
    have ndf : du ≠ f := ne_of_none x3 hf
    have nhf : hd ≠ f := ne_of_none (s3 _ _ y2) hf
    have y8 : upd H6 f (.lst ((dsO os).map V.int ++ [.int 1])) hd = some (.lst (os.map V.int)) := by
      rw [upd_ne nhf]
      exact kp _ _ ((s3.trans s45) _ _ y2) nofun
    have x8 : upd H6 f (.lst ((dsO os).map V.int ++ [.int 1])) du = some (.lst ((dsO os).map V.int)) := by
      rw [upd_ne ndf]
      exact kp _ _ (s45 _ _ x3) nofun
    generalize upd H6 f (.lst ((dsO os).map V.int ++ [.int 1])) = H8 at *
    exact ⟨_, rfl, hd, os, 0, rfl, y8, by omega, fun n => absurd hg n, .inl ⟨rfl, fun _ f2 H9 _ s9 x9 => ⟨_, rfl, eq_lst x9 (s9 _ _ x8) (q _)⟩⟩⟩
  · refine ⟨_, rfl, ra, os, rfl, x2, by omega, fun n => absurd n hg, fun _ du H3 s3 x3 => ?_⟩
    refine ⟨_, rfl, hd, os, 0, rfl, s3 _ _ y2, by omega, fun _ f H4 hf s4 x4 => ?_, .inl ⟨rfl, fun n => absurd n hg⟩⟩
    have s34 := s3.trans s4
    refine ⟨_, rfl, _, rfl, ne_rf x4 (s4 _ _ x3) ⟨_, rfl, iteF ?_⟩⟩
    refine ⟨_, rfl, _, rfl, ne_lst (s34 _ _ y2) (s34 _ _ x2) ⟨_, rfl, iteF ?_⟩⟩
    refine ⟨_, rfl, _, "list", _, false, rfl, .tup x4, rfl, false, rfl, iteT ?_⟩
    refine ⟨_, rfl, hd, os, 1, rfl, s34 _ _ y2, by omega, fun _ f2 H9 _ s9 x9 => ?_, .inr ⟨rfl, TabAt.same hT2 s34, fun n => absurd n hg⟩⟩
    refine ⟨_, rfl, eq_rf x9 ((s4.trans s9) _ _ x3) ⟨_, rfl, iteT ?_⟩⟩
    exact ⟨_, rfl, _, rfl, eq_lst ((s34.trans s9) _ _ y2) ((s34.trans s9) _ _ x2) (q _)⟩
end
theorem all_mk {l : PySem.W.OpenLaw} {w : World} {K : PySem.W.Frag} {h : Heap} {mg : Str → Option Value} {fa f0 f1 f2 f3 f4 f5 f6 f7 f8 f9 f10 f11 f12 f13 f14 f15 f16 f17 f18 f19 f20 f21 f22 f23 f24 f25 f26 f27 f28 f29 f30 f31 f32 f33 f34 f35 f36 f37 f38 f39 f40 f41 f42 f43 f44 f45 f46 f47 f48 f49 f50 f51 : Addr} {e0 e1 e2 e3 e4 e5 e6 e7 e8 e10 e11 e12 e13 e14 e15 e16 e17 e18 e19 e20 e21 e22 e23 e24 e25 e26 e27 e28 e29 e30 e31 e32 e33 e34 e35 e36 e37 e38 e39 e40 e41 e42 e43 e44 e45 e46 e47 e48 e49 e50 e51 : FuncData} {od9 an9 : Option Addr} {sl9 : Array (Option Value)} {oc9 kV9 dc9 pm9 ct9 : Value} {tt_BLOCK_BITS tt_BLOCK_OCTETS tt_COUNT_OCTETS tt_MOST_BITS tt_MOST_NODES tt_MOST_NUMBERS tt_TREE : Tok} {c_NoBit c_NoOctets c_NoTree c_TooMany c_WoodError : Addr} {tc_look_of tP_look_of : Addr} {to_look_of : Value} {td_look_of : Option Addr} {tv_look_of : Array Value} {ts_look_of : Array (Option Value)} {qq : Program} {loose : List Str} {mb : Str → Option Value} {mean : ExcName → Option Value} (X : K.In h) (TT : PyProof.Rows.Top qq loose mean mg mb h) (hfa : mg "law" = some (.ref fa))
    (d0 : FI K "packed" s_packed f0 e0)
    (d1 : FI K "check_row" s_check_row f1 e1)
    (d2 : FI K "block_of" s_block_of f2 e2)
    (d3 : FI K "unpacked" s_unpacked f3 e3)
    (d4 : FI K "bit_in" s_bit_in f4 e4)
    (d5 : FI K "bits_of" s_bits_of f5 e5)
    (d6 : FI K "ones_in" s_ones_in f6 e6)
    (d7 : FI K "nets_of" s_nets_of f7 e7)
    (d8 : FI K "low_in" s_low_in f8 e8)
    (a9 : PySem.W.nsIn K mainGlobals "look_of" = some (some (.ref f9))) (l9 : K.lookup f9 = some ⟨oc9, od9, .func (PySem.W.fnOf "look_of" "look_of" (defArgs s_look_of) (defBody s_look_of) (defScope s_look_of) .none kV9 dc9 pm9 an9 (.ref tc_look_of) ct9), sl9⟩) (c9 : PySem.W.codeIn K (.ref tc_look_of) "look_of" = true) (k9 : PySem.W.keepIn K (.ref f9) = true)
    (tl_look_of : K.lookup tc_look_of = some ⟨to_look_of, td_look_of, .fields tv_look_of, ts_look_of⟩) (tp_look_of : tv_look_of[11]? = some (.ref tP_look_of)) (tr_look_of : ∃ d, (PyProof.Rows.recsOf qq).find? (fun e => e.name == ("look_of" : Str)) = some d)
    (d10 : FI K "octets_of" s_octets_of f10 e10)
    (d11 : FI K "number_of" s_number_of f11 e11)
    (d12 : FI K "kept_row" s_kept_row f12 e12)
    (d13 : FI K "ahead_of" s_ahead_of f13 e13)
    (d14 : FI K "heap_of" s_heap_of f14 e14)
    (d15 : FI K "size_of" s_size_of f15 e15)
    (d16 : FI K "lesser_of" s_lesser_of f16 e16)
    (d17 : FI K "is_tree" s_is_tree f17 e17)
    (d18 : FI K "check_brackets" s_check_brackets f18 e18)
    (d19 : FI K "kept_brackets" s_kept_brackets f19 e19)
    (d20 : FI K "low_of" s_low_of f20 e20)
    (d21 : FI K "base_of" s_base_of f21 e21)
    (d22 : FI K "end_within" s_end_within f22 e22)
    (d23 : FI K "check_depths" s_check_depths f23 e23)
    (d24 : FI K "brackets_of" s_brackets_of f24 e24)
    (d25 : FI K "depths_of" s_depths_of f25 e25)
    (d26 : FI K "kept_tree" s_kept_tree f26 e26)
    (d27 : FI K "numbers_octets" s_numbers_octets f27 e27)
    (d28 : FI K "bits_octets" s_bits_octets f28 e28)
    (d29 : FI K "tree_octets" s_tree_octets f29 e29)
    (d30 : FI K "read_tree" s_read_tree f30 e30)
    (d31 : FI K "opened_tree" s_opened_tree f31 e31)
    (d32 : FI K "read_as" s_read_as f32 e32)
    (d33 : FI K "check_octets" s_check_octets f33 e33)
    (d34 : FI K "number_at" s_number_at f34 e34)
    (d35 : FI K "numbers_at" s_numbers_at f35 e35)
    (d36 : FI K "block_total" s_block_total f36 e36)
    (d37 : FI K "bits_at" s_bits_at f37 e37)
    (d38 : FI K "told_bits" s_told_bits f38 e38)
    (d39 : FI K "told_depths" s_told_depths f39 e39)
    (d40 : FI K "_law_cell_at" s_law_cell_at f40 e40)
    (d41 : FI K "_law_whole" s_law_whole f41 e41)
    (d42 : FI K "_law_bits" s_law_bits f42 e42)
    (d43 : FI K "_law_two" s_law_two f43 e43)
    (d44 : FI K "_law_written" s_law_written f44 e44)
    (d45 : FI K "_law_due" s_law_due f45 e45)
    (d46 : FI K "_law_asked" s_law_asked f46 e46)
    (d47 : FI K "_law_told" s_law_told f47 e47)
    (d48 : FI K "_law_changed" s_law_changed f48 e48)
    (d49 : FI K "_law_octets" s_law_octets f49 e49)
    (d50 : FI K "_law_opened" s_law_opened f50 e50)
    (d51 : FI K "law" s_law f51 e51)
    (z_ValueError : PySem.W.nsIn K mainGlobals "ValueError" = some none)
    (z_bool : PySem.W.nsIn K mainGlobals "bool" = some none)
    (z_enumerate : PySem.W.nsIn K mainGlobals "enumerate" = some none)
    (z_int : PySem.W.nsIn K mainGlobals "int" = some none)
    (z_isinstance : PySem.W.nsIn K mainGlobals "isinstance" = some none)
    (z_len : PySem.W.nsIn K mainGlobals "len" = some none)
    (z_list : PySem.W.nsIn K mainGlobals "list" = some none)
    (z_min : PySem.W.nsIn K mainGlobals "min" = some none)
    (z_range : PySem.W.nsIn K mainGlobals "range" = some none)
    (z_reversed : PySem.W.nsIn K mainGlobals "reversed" = some none)
    (z_sum : PySem.W.nsIn K mainGlobals "sum" = some none)
    (z_tuple : PySem.W.nsIn K mainGlobals "tuple" = some none)
    (z_zip : PySem.W.nsIn K mainGlobals "zip" = some none)
    (g_BLOCK_BITS : PySem.W.nsIn K mainGlobals "BLOCK_BITS" = some (some (.int 32 tt_BLOCK_BITS)))
    (g_BLOCK_OCTETS : PySem.W.nsIn K mainGlobals "BLOCK_OCTETS" = some (some (.int 4 tt_BLOCK_OCTETS)))
    (g_COUNT_OCTETS : PySem.W.nsIn K mainGlobals "COUNT_OCTETS" = some (some (.int 2 tt_COUNT_OCTETS)))
    (g_MOST_BITS : PySem.W.nsIn K mainGlobals "MOST_BITS" = some (some (.int 4096 tt_MOST_BITS)))
    (g_MOST_NODES : PySem.W.nsIn K mainGlobals "MOST_NODES" = some (some (.int 2048 tt_MOST_NODES)))
    (g_MOST_NUMBERS : PySem.W.nsIn K mainGlobals "MOST_NUMBERS" = some (some (.int 4096 tt_MOST_NUMBERS)))
    (g_TREE : PySem.W.nsIn K mainGlobals "TREE" = some (some (.int 2 tt_TREE)))
    (q_NoBit : PySem.W.nsIn K mainGlobals "NoBit" = some (some (.ref c_NoBit)))
    (q_NoOctets : PySem.W.nsIn K mainGlobals "NoOctets" = some (some (.ref c_NoOctets)))
    (q_NoTree : PySem.W.nsIn K mainGlobals "NoTree" = some (some (.ref c_NoTree)))
    (q_TooMany : PySem.W.nsIn K mainGlobals "TooMany" = some (some (.ref c_TooMany)))
    (q_WoodError : PySem.W.nsIn K mainGlobals "WoodError" = some (some (.ref c_WoodError)))
    (ex_NoBit : PySem.W.excIn K c_NoBit bmV "ValueError.__new__" = true)
    (ed_NoBit : PySem.W.hasDictIn K c_NoBit = true)
    (ega_NoBit : PySem.W.findIn K (.ref c_NoBit) "__getattribute__" = some (some (.builtin "BaseException.__getattribute__")))
    (eng_NoBit : PySem.W.findIn K (.ref c_NoBit) "__getattr__" = some none)
    (ecl_NoBit : PySem.W.findIn K (.ref c_NoBit) "__class__" = some (some (.builtin "object.__class__")))
    (egt_NoBit : PySem.W.specialIn K (.builtin "object.__class__") "__get__" = some (some (.builtin "getset_descriptor.__get__")))
    (etk_NoBit : PySem.W.takesIn K (.builtin "object.__class__") = some true)
    (emo_NoBit : PySem.W.mroIn K c_NoBit (.type "object") = some true)
    (emb_NoBit : PySem.W.mroIn K c_NoBit (.type "BaseException") = some true)
    (i_NoBit_NoBit : PySem.W.kitOne K (.ref c_NoBit) (.ref c_NoBit) = some true)
    (i_NoBit_NoOctets : PySem.W.kitOne K (.ref c_NoBit) (.ref c_NoOctets) = some false)
    (i_NoBit_NoTree : PySem.W.kitOne K (.ref c_NoBit) (.ref c_NoTree) = some false)
    (i_NoBit_TooMany : PySem.W.kitOne K (.ref c_NoBit) (.ref c_TooMany) = some false)
    (i_NoBit_WoodError : PySem.W.kitOne K (.ref c_NoBit) (.ref c_WoodError) = some true)
    (i_NoBit_ValueError : PySem.W.kitOne K (.ref c_NoBit) (.type "ValueError") = some true)
    (ex_NoOctets : PySem.W.excIn K c_NoOctets bmV "ValueError.__new__" = true)
    (ed_NoOctets : PySem.W.hasDictIn K c_NoOctets = true)
    (ega_NoOctets : PySem.W.findIn K (.ref c_NoOctets) "__getattribute__" = some (some (.builtin "BaseException.__getattribute__")))
    (eng_NoOctets : PySem.W.findIn K (.ref c_NoOctets) "__getattr__" = some none)
    (ecl_NoOctets : PySem.W.findIn K (.ref c_NoOctets) "__class__" = some (some (.builtin "object.__class__")))
    (egt_NoOctets : PySem.W.specialIn K (.builtin "object.__class__") "__get__" = some (some (.builtin "getset_descriptor.__get__")))
    (etk_NoOctets : PySem.W.takesIn K (.builtin "object.__class__") = some true)
    (emo_NoOctets : PySem.W.mroIn K c_NoOctets (.type "object") = some true)
    (emb_NoOctets : PySem.W.mroIn K c_NoOctets (.type "BaseException") = some true)
    (i_NoOctets_NoBit : PySem.W.kitOne K (.ref c_NoOctets) (.ref c_NoBit) = some false)
    (i_NoOctets_NoOctets : PySem.W.kitOne K (.ref c_NoOctets) (.ref c_NoOctets) = some true)
    (i_NoOctets_NoTree : PySem.W.kitOne K (.ref c_NoOctets) (.ref c_NoTree) = some false)
    (i_NoOctets_TooMany : PySem.W.kitOne K (.ref c_NoOctets) (.ref c_TooMany) = some false)
    (i_NoOctets_WoodError : PySem.W.kitOne K (.ref c_NoOctets) (.ref c_WoodError) = some true)
    (i_NoOctets_ValueError : PySem.W.kitOne K (.ref c_NoOctets) (.type "ValueError") = some true)
    (ex_NoTree : PySem.W.excIn K c_NoTree bmV "ValueError.__new__" = true)
    (ed_NoTree : PySem.W.hasDictIn K c_NoTree = true)
    (ega_NoTree : PySem.W.findIn K (.ref c_NoTree) "__getattribute__" = some (some (.builtin "BaseException.__getattribute__")))
    (eng_NoTree : PySem.W.findIn K (.ref c_NoTree) "__getattr__" = some none)
    (ecl_NoTree : PySem.W.findIn K (.ref c_NoTree) "__class__" = some (some (.builtin "object.__class__")))
    (egt_NoTree : PySem.W.specialIn K (.builtin "object.__class__") "__get__" = some (some (.builtin "getset_descriptor.__get__")))
    (etk_NoTree : PySem.W.takesIn K (.builtin "object.__class__") = some true)
    (emo_NoTree : PySem.W.mroIn K c_NoTree (.type "object") = some true)
    (emb_NoTree : PySem.W.mroIn K c_NoTree (.type "BaseException") = some true)
    (i_NoTree_NoBit : PySem.W.kitOne K (.ref c_NoTree) (.ref c_NoBit) = some false)
    (i_NoTree_NoOctets : PySem.W.kitOne K (.ref c_NoTree) (.ref c_NoOctets) = some false)
    (i_NoTree_NoTree : PySem.W.kitOne K (.ref c_NoTree) (.ref c_NoTree) = some true)
    (i_NoTree_TooMany : PySem.W.kitOne K (.ref c_NoTree) (.ref c_TooMany) = some false)
    (i_NoTree_WoodError : PySem.W.kitOne K (.ref c_NoTree) (.ref c_WoodError) = some true)
    (i_NoTree_ValueError : PySem.W.kitOne K (.ref c_NoTree) (.type "ValueError") = some true)
    (ex_TooMany : PySem.W.excIn K c_TooMany bmV "ValueError.__new__" = true)
    (ed_TooMany : PySem.W.hasDictIn K c_TooMany = true)
    (ega_TooMany : PySem.W.findIn K (.ref c_TooMany) "__getattribute__" = some (some (.builtin "BaseException.__getattribute__")))
    (eng_TooMany : PySem.W.findIn K (.ref c_TooMany) "__getattr__" = some none)
    (ecl_TooMany : PySem.W.findIn K (.ref c_TooMany) "__class__" = some (some (.builtin "object.__class__")))
    (egt_TooMany : PySem.W.specialIn K (.builtin "object.__class__") "__get__" = some (some (.builtin "getset_descriptor.__get__")))
    (etk_TooMany : PySem.W.takesIn K (.builtin "object.__class__") = some true)
    (emo_TooMany : PySem.W.mroIn K c_TooMany (.type "object") = some true)
    (emb_TooMany : PySem.W.mroIn K c_TooMany (.type "BaseException") = some true)
    (i_TooMany_NoBit : PySem.W.kitOne K (.ref c_TooMany) (.ref c_NoBit) = some false)
    (i_TooMany_NoOctets : PySem.W.kitOne K (.ref c_TooMany) (.ref c_NoOctets) = some false)
    (i_TooMany_NoTree : PySem.W.kitOne K (.ref c_TooMany) (.ref c_NoTree) = some false)
    (i_TooMany_TooMany : PySem.W.kitOne K (.ref c_TooMany) (.ref c_TooMany) = some true)
    (i_TooMany_WoodError : PySem.W.kitOne K (.ref c_TooMany) (.ref c_WoodError) = some true)
    (i_TooMany_ValueError : PySem.W.kitOne K (.ref c_TooMany) (.type "ValueError") = some true)
    (ex_WoodError : PySem.W.excIn K c_WoodError bmV "ValueError.__new__" = true)
    (ed_WoodError : PySem.W.hasDictIn K c_WoodError = true)
    (ega_WoodError : PySem.W.findIn K (.ref c_WoodError) "__getattribute__" = some (some (.builtin "BaseException.__getattribute__")))
    (eng_WoodError : PySem.W.findIn K (.ref c_WoodError) "__getattr__" = some none)
    (ecl_WoodError : PySem.W.findIn K (.ref c_WoodError) "__class__" = some (some (.builtin "object.__class__")))
    (egt_WoodError : PySem.W.specialIn K (.builtin "object.__class__") "__get__" = some (some (.builtin "getset_descriptor.__get__")))
    (etk_WoodError : PySem.W.takesIn K (.builtin "object.__class__") = some true)
    (emo_WoodError : PySem.W.mroIn K c_WoodError (.type "object") = some true)
    (emb_WoodError : PySem.W.mroIn K c_WoodError (.type "BaseException") = some true)
    (i_WoodError_NoBit : PySem.W.kitOne K (.ref c_WoodError) (.ref c_NoBit) = some false)
    (i_WoodError_NoOctets : PySem.W.kitOne K (.ref c_WoodError) (.ref c_NoOctets) = some false)
    (i_WoodError_NoTree : PySem.W.kitOne K (.ref c_WoodError) (.ref c_NoTree) = some false)
    (i_WoodError_TooMany : PySem.W.kitOne K (.ref c_WoodError) (.ref c_TooMany) = some false)
    (i_WoodError_WoodError : PySem.W.kitOne K (.ref c_WoodError) (.ref c_WoodError) = some true)
    (i_WoodError_ValueError : PySem.W.kitOne K (.ref c_WoodError) (.type "ValueError") = some true)
    (nt : PySem.W.noTabs K = true) :
    ∃ (fd : FuncData) (tabs : List (Addr × Addr)) (sp : Sp), (∀ (s : Shared) (v : Value), BindsTo s fd ⟨[v], []⟩ [("_law_script", v)]) ∧ PySem.W.TabsAt tabs h ∧ PySem.W.noTabs K = true ∧ (∀ base : Heap, K.In base → base.Ns mainGlobals mg → BMain mg base → (∀ q ∈ tabs, PySem.W.CodeHd base q.1 q.2) → FnOk l.prog w K mg base CX0 15 fa fd ["_law_script"] sp) ∧
      ∀ (H : Hp) (a : Addr) (ns : List Int), ns.length ≤ 63 → SqL K H a (ns.map V.int) → (∀ q ∈ tabs, H q.2 = some (.tbl #[])) → sp [.ref a] H (fun v _ => v = .bl true) fun _ _ _ => False := by
  have G := TT.g
  have e := hfa.symm.trans (PySem.W.mg_of X G d51.a)
  cases e
  obtain ⟨_, _, _, _, _, _, _, _, _, rfl, _, _⟩ := d51.F.ex
  have F9 := fun_mk (st := s_look_of) l9 c9 k9
  have D9 : Df K mg "look_of" s_look_of ["blocks"] _ _ := ⟨F9, F9.binds (ps := ["blocks"]) fun _ _ _ _ _ _ us hl => lens1 (C := fun us => bindArgs _ ⟨us, []⟩ = pure (List.zip (["blocks"] : List Str) us)) hl (fun _ => rfl), PySem.W.mg_of X G a9⟩
  have T : Tx K mg ⟨tc_look_of, tP_look_of, _, _, _, _, _, _, _, _, _, _, _, _, _, _, _, _, _, _, _, _, _, _, _, _, _, _, _, _, _, _, _, _, _, _, _, _, _, _, _, _, _, _, _, _, _, _, _, _, _, _, _, _, _, _, _, _, _, _, _, _, _, _, _, _, _, _, _, _, _, _, _, _, _, _, _, _, _, _, _, _, _, _, _, _, _, _, _, _, _, _, _, _, _, _, _, _, _, _, _, _, _, _, _, _, _, _, _, _, _, _, _, c_NoBit, c_NoOctets, c_NoTree, c_TooMany, c_WoodError⟩ := ⟨df1 X G d0 fun _ _ _ _ _ _ _ => rfl, df1 X G d1 fun _ _ _ _ _ _ _ => rfl, df1 X G d2 fun _ _ _ _ _ _ _ => rfl, df2 X G d3 fun _ _ _ _ _ _ _ _ => rfl, df2 X G d4 fun _ _ _ _ _ _ _ _ => rfl, df2 X G d5 fun _ _ _ _ _ _ _ _ => rfl, df2 X G d6 fun _ _ _ _ _ _ _ _ => rfl, df2 X G d7 fun _ _ _ _ _ _ _ _ => rfl, df2 X G d8 fun _ _ _ _ _ _ _ _ => rfl, D9, df2 X G d10 fun _ _ _ _ _ _ _ _ => rfl, df1 X G d11 fun _ _ _ _ _ _ _ => rfl, df1 X G d12 fun _ _ _ _ _ _ _ => rfl, df1 X G d13 fun _ _ _ _ _ _ _ => rfl, df1 X G d14 fun _ _ _ _ _ _ _ => rfl, df1 X G d15 fun _ _ _ _ _ _ _ => rfl, df2 X G d16 fun _ _ _ _ _ _ _ _ => rfl, df1 X G d17 fun _ _ _ _ _ _ _ => rfl, df1 X G d18 fun _ _ _ _ _ _ _ => rfl, df1 X G d19 fun _ _ _ _ _ _ _ => rfl, df3 X G d20 fun _ _ _ _ _ _ _ _ _ => rfl, df2 X G d21 fun _ _ _ _ _ _ _ _ => rfl, df2 X G d22 fun _ _ _ _ _ _ _ _ => rfl, df1 X G d23 fun _ _ _ _ _ _ _ => rfl, df1 X G d24 fun _ _ _ _ _ _ _ => rfl, df1 X G d25 fun _ _ _ _ _ _ _ => rfl, df1 X G d26 fun _ _ _ _ _ _ _ => rfl, df2 X G d27 fun _ _ _ _ _ _ _ _ => rfl, df2 X G d28 fun _ _ _ _ _ _ _ _ => rfl, df1 X G d29 fun _ _ _ _ _ _ _ => rfl, df1 X G d30 fun _ _ _ _ _ _ _ => rfl, df1 X G d31 fun _ _ _ _ _ _ _ => rfl, df3 X G d32 fun _ _ _ _ _ _ _ _ _ => rfl, df1 X G d33 fun _ _ _ _ _ _ _ => rfl, df3 X G d34 fun _ _ _ _ _ _ _ _ _ => rfl, df4 X G d35 fun _ _ _ _ _ _ _ _ _ _ => rfl, df1 X G d36 fun _ _ _ _ _ _ _ => rfl, df3 X G d37 fun _ _ _ _ _ _ _ _ _ => rfl, df1 X G d38 fun _ _ _ _ _ _ _ => rfl, df1 X G d39 fun _ _ _ _ _ _ _ => rfl, df2 X G d40 fun _ _ _ _ _ _ _ _ => rfl, df1 X G d41 fun _ _ _ _ _ _ _ => rfl, df1 X G d42 fun _ _ _ _ _ _ _ => rfl, df1 X G d43 fun _ _ _ _ _ _ _ => rfl, df1 X G d44 fun _ _ _ _ _ _ _ => rfl, df1 X G d45 fun _ _ _ _ _ _ _ => rfl, df2 X G d46 fun _ _ _ _ _ _ _ _ => rfl, df2 X G d47 fun _ _ _ _ _ _ _ _ => rfl, df2 X G d48 fun _ _ _ _ _ _ _ _ => rfl, df1 X G d49 fun _ _ _ _ _ _ _ => rfl, df2 X G d50 fun _ _ _ _ _ _ _ _ => rfl, df1 X G d51 fun _ _ _ _ _ _ _ => rfl, PySem.W.mg_none_of X G z_ValueError, PySem.W.mg_none_of X G z_bool, PySem.W.mg_none_of X G z_enumerate, PySem.W.mg_none_of X G z_int, PySem.W.mg_none_of X G z_isinstance, PySem.W.mg_none_of X G z_len, PySem.W.mg_none_of X G z_list, PySem.W.mg_none_of X G z_min, PySem.W.mg_none_of X G z_range, PySem.W.mg_none_of X G z_reversed, PySem.W.mg_none_of X G z_sum, PySem.W.mg_none_of X G z_tuple, PySem.W.mg_none_of X G z_zip, PySem.W.mg_of X G g_BLOCK_BITS, PySem.W.mg_of X G g_BLOCK_OCTETS, PySem.W.mg_of X G g_COUNT_OCTETS, PySem.W.mg_of X G g_MOST_BITS, PySem.W.mg_of X G g_MOST_NODES, PySem.W.mg_of X G g_MOST_NUMBERS, PySem.W.mg_of X G g_TREE, PySem.W.mg_of X G q_NoBit, PySem.W.mg_of X G q_NoOctets, PySem.W.mg_of X G q_NoTree, PySem.W.mg_of X G q_TooMany, PySem.W.mg_of X G q_WoodError, ⟨PySem.W.mg_of X G q_NoBit, ex_NoBit⟩, ⟨ed_NoBit, ega_NoBit, eng_NoBit, ecl_NoBit, egt_NoBit, etk_NoBit, emo_NoBit, emb_NoBit⟩, i_NoBit_NoBit, i_NoBit_NoOctets, i_NoBit_NoTree, i_NoBit_TooMany, i_NoBit_WoodError, i_NoBit_ValueError, ⟨PySem.W.mg_of X G q_NoOctets, ex_NoOctets⟩, ⟨ed_NoOctets, ega_NoOctets, eng_NoOctets, ecl_NoOctets, egt_NoOctets, etk_NoOctets, emo_NoOctets, emb_NoOctets⟩, i_NoOctets_NoBit, i_NoOctets_NoOctets, i_NoOctets_NoTree, i_NoOctets_TooMany, i_NoOctets_WoodError, i_NoOctets_ValueError, ⟨PySem.W.mg_of X G q_NoTree, ex_NoTree⟩, ⟨ed_NoTree, ega_NoTree, eng_NoTree, ecl_NoTree, egt_NoTree, etk_NoTree, emo_NoTree, emb_NoTree⟩, i_NoTree_NoBit, i_NoTree_NoOctets, i_NoTree_NoTree, i_NoTree_TooMany, i_NoTree_WoodError, i_NoTree_ValueError, ⟨PySem.W.mg_of X G q_TooMany, ex_TooMany⟩, ⟨ed_TooMany, ega_TooMany, eng_TooMany, ecl_TooMany, egt_TooMany, etk_TooMany, emo_TooMany, emb_TooMany⟩, i_TooMany_NoBit, i_TooMany_NoOctets, i_TooMany_NoTree, i_TooMany_TooMany, i_TooMany_WoodError, i_TooMany_ValueError, ⟨PySem.W.mg_of X G q_WoodError, ex_WoodError⟩, ⟨ed_WoodError, ega_WoodError, eng_WoodError, ecl_WoodError, egt_WoodError, etk_WoodError, emo_WoodError, emb_WoodError⟩, i_WoodError_NoBit, i_WoodError_NoOctets, i_WoodError_NoTree, i_WoodError_TooMany, i_WoodError_WoodError, i_WoodError_ValueError, rfl⟩
  obtain ⟨d_look_of, tr_look_of⟩ := tr_look_of
  have tb_look_of := PySem.W.tab_of TT X tr_look_of (tabIn_of a9 l9 rfl tl_look_of tp_look_of)
  exact ⟨_, [(tc_look_of, tP_look_of)], sp_law K tP_look_of, fun s v => .of_eq rfl, List.forall_mem_cons.mpr ⟨tb_look_of, fun _ z => nomatch z⟩, nt, fun base _ _ bm hc => ok_law T ⟨bm, hc _ (.head _)⟩, fun H a ns hl hS hTb => law_start hS hl (hTb _ (.head _))⟩
end Tw
namespace Tp
open PySem
noncomputable section
abbrev O := Params → Obj
def sq (l : List Str) : Nat → List Value := @List.rec Str (fun _ => Nat → List Value) (fun _ => []) (fun s _ ih t => Value.str s t :: ih (Nat.add t 1)) l
def ap {α : Type} (a b : List α) : List α := @List.rec α (fun _ => List α) b (fun x _ r => x :: r) a
def tk {α : Type} (l : List α) : Nat → List α := @List.rec α (fun _ => Nat → List α) (fun _ => []) (fun x _ ih n => @Nat.rec (fun _ => List α) [] (fun m _ => x :: ih m) n) l
def mp {α β : Type} (f : α → β) (l : List α) : List β := @List.rec α (fun _ => List β) [] (fun x _ r => f x :: r) l
def ov (l : List O) : List (Nat × O) → List O := @List.rec O (fun _ => List (Nat × O) → List O) (fun _ => []) (fun x _ ih ex => @List.rec (Nat × O) (fun _ => List O) (x :: ih []) (fun e r _ => @Nat.rec (fun _ => List O) (e.2 :: ih r) (fun g _ => x :: ih ((g, e.2) :: r)) e.1) ex) l
def ev (l : List Obj) : Bool → List Obj := @List.rec Obj (fun _ => Bool → List Obj) (fun _ => []) (fun x _ ih b => @Bool.rec (fun _ => List Obj) (ih true) (x :: ih false) b) l
def bt (n : Nat) : List Obj → PySem.W.BT := @Nat.rec (fun _ => List Obj → PySem.W.BT) (fun _ => .nil) (fun _ ih l => @List.rec Obj (fun _ => PySem.W.BT) .nil (fun x xs _ => .node x (ih (ev xs true)) (ih (ev xs false))) l) n
def Z (s : Str) (t : Nat) (v : Value) (P : Params) : DictEntry := .mk (PyData.keyHash P s) (.str s t) v
def E (s : Str) (t r : Nat) (P : Params) : DictEntry := .mk (PyData.keyHash P s) (.str s t) (.ref r)
def gd (l : List (Params → DictEntry)) (n : Nat) (P : Params) : Obj := .mk (.type "dict") none (.dict (mp (fun e => e P) l).toArray n) #[]
def tb (l : List (Nat × Nat)) (P : Params) : Obj := .mk .none none (.fields (@List.rec (Nat × Nat) (fun _ => List Value) [] (fun x _ r => .int (Int.ofNat x.1) 0 :: .int 0 0 :: .ref x.2 :: r) l).toArray) #[]
def h0 (x0 : Nat) (x1 : Nat) (x2 : Nat) (x3 : Str) : List O := [fun P => (.mk (.type "tuple") none (.seq #[(.ref 24)] 0) #[]), fun P => (.mk (.type "builtin_function_or_method") none (.fields #[(.builtin "type.__prepare__"), (.type "type")]) #[]), fun P => (.mk (.type "dict") none (.dict #[(.mk (PyData.keyHash P "__module__") (.str "__module__" (Nat.add x0 7)) (.str "thinwood.errors" 187)), (.mk (PyData.keyHash P "__qualname__") (.str "__qualname__" (Nat.add x0 9)) (.str x3 (Nat.add x0 8))), (.mk (PyData.keyHash P "__firstlineno__") (.str "__firstlineno__" (Nat.add x0 11)) (.int (Int.ofNat x1) (Nat.add x0 10))), (.mk (PyData.keyHash P "__static_attributes__") (.str "__static_attributes__" (Nat.add x0 12)) (.ref (Nat.add x2 7)))] 4) #[]), fun P => (.mk (.type "tuple") none (.seq #[] 0) #[]), fun P => (.mk .none none (.fields #[]) #[]), fun P => (.mk (.type "code") none (.fields #[(.str x3 (Nat.add x0 2)), (.str x3 (Nat.add x0 3)), (.str "/claim/cut.py" (Nat.add x0 4)), (.int (Int.ofNat x1) 0), (.int 0 0), (.int 0 0), (.int 0 0), (.int 0 0), (.ref (Nat.add x2 3)), (.bool .false), (.int 181 0), (.ref (Nat.add x2 4)), .none, .none, .none, .none, (.int (Int.ofNat (Nat.add x0 5)) 0), (.int (Int.ofNat x1) 0), (.str "/claim/cut.py" (Nat.add x0 6))]) #[]), fun P => (.mk (.type "frame") none .plain #[(some (.ref (Nat.add x2 5))), (some (.ref 3)), (some (.ref (Nat.add x2 2))), none, (some (.str "thinwood.errors" 187)), none, (some (.ref 0))]), fun P => (.mk (.type "tuple") none (.seq #[] 0) #[]), fun P => (.mk (.type "dict") none (.dict #[(.mk (PyData.keyHash P "__module__") (.str "__module__" (Nat.add x0 7)) (.str "thinwood.errors" 187)), (.mk (PyData.keyHash P "__firstlineno__") (.str "__firstlineno__" (Nat.add x0 11)) (.int (Int.ofNat x1) (Nat.add x0 10))), (.mk (PyData.keyHash P "__static_attributes__") (.str "__static_attributes__" (Nat.add x0 12)) (.ref (Nat.add x2 7))), (.mk (PyData.keyHash P "__doc__") (.str "__doc__" (Nat.add x0 13)) .none)] 2) #[]), fun P => (.mk (.type "type") none (.cls (.mk x3 [(.ref 24)] [(.ref (Nat.add x2 9)), (.ref 24), (.type "ValueError"), (.type "Exception"), (.type "BaseException"), (.type "object")] (Nat.add x2 8) x3 .true [] [] .false none .false)) #[(some (.ref x2)), none, (some (.str x3 x0)), (some (.str x3 (Nat.add x0 8))), (some (.builtin "ValueError.__new__")), (some (.bool .true))]), fun P => (.mk (.type "super") none (.fields #[(.ref (Nat.add x2 9)), (.ref (Nat.add x2 9)), (.ref (Nat.add x2 9))]) #[]), fun P => (.mk (.type "builtin_function_or_method") none (.fields #[(.builtin "object.__init_subclass__"), (.ref (Nat.add x2 9))]) #[])]
def h1 (x0 : Nat) (x1 : Nat) (x2 : Nat) (x3 : Nat) (x4 : Nat) (x5 : Nat) (x6 : Str) (x7 : Str) : List O := [fun P => (.mk (.type "tuple") none (.seq #[] 0) #[]), fun P => (.mk .none none (.fields #[]) #[]), fun P => (.mk .none none (.func (FuncData.mk x6 x6 (L2.defArgs (Tw.top x0)) (FuncBody.stmts (L2.defBody (Tw.top x0))) (L2.defScope (Tw.top x0)) 0 [] .none .none .none .none none .none .none 0)) #[]), fun P => (.mk (.type "code") none (.fields #[(.str x6 x1), (.str x6 (Nat.add x1 1)), (.str "/claim/cut.py" (Nat.add x1 2)), (.int (Int.ofNat x2) 0), (.int (Int.ofNat x3) 0), (.int 0 0), (.int 0 0), (.int 3 0), (.ref x4), (.bool .true), (.int 181 0), (.ref (Nat.add x4 1)), .none, .none, .none, (.ref (Nat.add x4 2)), (.int (Int.ofNat (Nat.add x1 3)) 0), (.int (Int.ofNat x2) 0), (.str "/claim/cut.py" (Nat.add x1 4))]) #[]), fun P => (.mk (.type "function") none (.func (FuncData.mk x6 x6 (L2.defArgs (Tw.top x0)) (FuncBody.stmts (L2.defBody (Tw.top x0))) (L2.defScope (Tw.top x0)) 3 [] .none .none .none (.str x7 x5) none (.ref (Nat.add x4 3)) .none 0)) #[])]
def h2 (x0 : Nat) (x1 : Nat) (x2 : Nat) (x3 : Nat) (x4 : Nat) (x5 : Nat) (x6 : Nat) (x7 : List Str) (x8 : Str) (x9 : Str) : List O := [fun P => (.mk (.type "tuple") none (.seq #[] 0) #[]), fun P => (.mk .none none (.fields #[]) #[]), fun P => (.mk (.type "tuple") none (.seq (sq x7 (Nat.add x0 3)).toArray 0) #[]), fun P => (.mk (.type "tuple") none (.seq #[] 0) #[]), fun P => (.mk .none none (.func (FuncData.mk x8 x8 (L2.defArgs (Tw.top x1)) (FuncBody.stmts (L2.defBody (Tw.top x1))) (L2.defScope (Tw.top x1)) 0 [] .none .none .none .none none .none .none 0)) #[]), fun P => (.mk (.type "code") none (.fields #[(.str x8 x0), (.str x8 (Nat.add x0 1)), (.str "/claim/cut.py" (Nat.add x0 2)), (.int (Int.ofNat x2) 0), (.int (Int.ofNat x3) 0), (.int 0 0), (.int 0 0), (.int 3 0), (.ref x4), (.bool .true), (.int 181 0), (.ref (Nat.add x4 1)), .none, (.ref (Nat.add x4 2)), (.ref (Nat.add x4 3)), (.ref (Nat.add x4 4)), (.int (Int.ofNat x5) 0), (.int (Int.ofNat x2) 0), (.str "/claim/cut.py" (Nat.add x5 1))]) #[]), fun P => (.mk (.type "function") none (.func (FuncData.mk x8 x8 (L2.defArgs (Tw.top x1)) (FuncBody.stmts (L2.defBody (Tw.top x1))) (L2.defScope (Tw.top x1)) 3 [] .none .none .none (.str x9 x6) none (.ref (Nat.add x4 5)) .none 0)) #[])]
def g0 : List (Params → DictEntry) := [Z "__doc__" 166 .none, Z "__package__" 167 .none, Z "__loader__" 168 (.builtin "__main__.__loader__#opaque"), Z "__spec__" 169 .none, E "__annotations__" 170 6, E "__builtins__" 171 4, Z "__file__" 173 (.str "/claim/cut.py" 172), Z "__cached__" 174 .none, E "WoodError" 206 24, E "TooMany" 222 37]
def g1 : List (Params → DictEntry) := [E "NoBit" 238 49, E "NoPlace" 254 61, E "NoTree" 270 73, E "NoOctets" 286 85, Z "BLOCK_BITS" 290 (.int 32 289), Z "MOST_BITS" 292 (.int 4096 291), E "packed" 298 92, E "check_row" 306 99, E "block_of" 315 106, E "unpacked" 325 113]
def g2 : List (Params → DictEntry) := [E "bit_in" 333 120, E "bits_of" 339 125, E "ones_in" 347 132, E "nets_of" 358 139, E "low_in" 366 146, E "look_of" 375 153, E "octets_of" 388 160, E "number_of" 397 167, E "kept_row" 407 174, E "ahead_of" 416 181]
def g3 : List (Params → DictEntry) := [Z "MOST_NUMBERS" 420 (.int 4096 419), E "heap_of" 430 188, E "size_of" 438 195, E "lesser_of" 446 202, E "is_tree" 458 209, E "check_brackets" 465 216, E "kept_brackets" 471 221, E "low_of" 480 228, E "base_of" 488 235, E "end_within" 496 242]
def g4 : List (Params → DictEntry) := [Z "MOST_NODES" 500 (.int 2048 499), E "check_depths" 509 249, E "brackets_of" 519 256, E "depths_of" 529 263, E "kept_tree" 536 270, Z "TREE" 540 (.int 2 539), Z "COUNT_OCTETS" 542 (.int 2 541), Z "BLOCK_OCTETS" 544 (.int 4 543), E "numbers_octets" 554 277, E "bits_octets" 562 284]
def g5 : List (Params → DictEntry) := [E "tree_octets" 575 291, E "read_tree" 582 298, E "opened_tree" 590 305, E "read_as" 601 312, E "check_octets" 609 319, E "number_at" 618 326, E "numbers_at" 624 331, E "block_total" 631 338, E "bits_at" 640 345, E "told_bits" 647 352]
def g6 : List (Params → DictEntry) := [E "told_depths" 654 359, E "_law_cell_at" 664 366, E "_law_whole" 671 373, E "_law_bits" 686 380, E "_law_two" 693 387, E "_law_written" 708 394, E "_law_due" 714 399, E "_law_asked" 722 406, E "_law_told" 728 411, E "_law_changed" 740 418]
def g7 : List (Params → DictEntry) := [E "_law_octets" 746 423, E "_law_opened" 752 428, E "law" 763 435]
def gg : List (Params → DictEntry) := ap g0 (ap g1 (ap g2 (ap g3 (ap g4 (ap g5 (ap g6 (g7)))))))
def tt : List (Nat × Nat) := [(2, 20), (4, 33), (6, 45), (8, 57), (10, 69), (12, 81), (17, 91), (20, 98), (26, 105), (31, 112), (38, 119), (40, 124), (42, 131), (44, 138), (51, 145), (53, 152), (60, 159), (67, 166), (73, 173), (76, 180), (83, 187), (91, 194), (96, 201), (103, 208), (110, 215), (114, 220), (121, 227), (123, 234), (125, 241), (129, 248), (137, 255), (146, 262), (155, 269), (161, 276), (166, 283), (168, 290), (176, 297), (178, 304), (181, 311), (191, 318), (195, 325), (199, 330), (201, 337), (203, 344), (205, 351), (207, 358), (210, 365), (214, 372), (216, 379), (237, 386), (239, 393), (261, 398), (282, 405), (286, 410), (301, 417), (319, 422), (340, 427), (361, 434)]
def s0 : O := gd (Z "__name__" 165 (.str "law_thinwood_k86_trees_read" 655) :: tk gg 73) 74
def l0 : O := fun P => (.mk (.type "tuple") none (.seq #[] 0) #[])
def s1 : O := tb (tk tt 58)
def l1 : O := fun P => (.mk (.type "code") none (.fields #[(.str "<module>" 182), (.str "<module>" 183), (.str "/claim/cut.py" 184), (.int 1 0), (.int 0 0), (.int 0 0), (.int 0 0), (.int 0 0), (.ref 11), (.bool .false), (.int 181 0), (.ref 12), .none, .none, .none, .none, (.int 185 0), (.int 1 0), (.str "/claim/cut.py" 186)]) #[])
def l2 : O := fun P => (.mk (.type "frame") none .plain #[(some (.ref 13)), (some (.ref 3)), (some (.ref 3)), none, (some (.str "__main__" 164)), none, (some (.ref 0))])
def l3 : O := fun P => (.mk (.type "tuple") none (.seq #[(.type "ValueError")] 0) #[])
def l4 : O := fun P => (.mk (.type "builtin_function_or_method") none (.fields #[(.builtin "type.__prepare__"), (.type "type")]) #[])
def l5 : O := fun P => (.mk (.type "dict") none (.dict #[(.mk (PyData.keyHash P "__module__") (.str "__module__" 196) (.str "thinwood.errors" 187)), (.mk (PyData.keyHash P "__qualname__") (.str "__qualname__" 198) (.str "WoodError" 197)), (.mk (PyData.keyHash P "__firstlineno__") (.str "__firstlineno__" 200) (.int 2 199)), (.mk (PyData.keyHash P "__static_attributes__") (.str "__static_attributes__" 201) (.ref 22))] 4) #[])
def l6 : O := fun P => (.mk .none none (.fields #[]) #[])
def l7 : O := fun P => (.mk (.type "code") none (.fields #[(.str "WoodError" 191), (.str "WoodError" 192), (.str "/claim/cut.py" 193), (.int 2 0), (.int 0 0), (.int 0 0), (.int 0 0), (.int 0 0), (.ref 18), (.bool .false), (.int 181 0), (.ref 19), .none, .none, .none, .none, (.int 194 0), (.int 2 0), (.str "/claim/cut.py" 195)]) #[])
def l8 : O := fun P => (.mk (.type "frame") none .plain #[(some (.ref 20)), (some (.ref 3)), (some (.ref 17)), none, (some (.str "thinwood.errors" 187)), none, (some (.ref 0))])
def l9 : O := fun P => (.mk (.type "dict") none (.dict #[(.mk (PyData.keyHash P "__module__") (.str "__module__" 196) (.str "thinwood.errors" 187)), (.mk (PyData.keyHash P "__firstlineno__") (.str "__firstlineno__" 200) (.int 2 199)), (.mk (PyData.keyHash P "__static_attributes__") (.str "__static_attributes__" 201) (.ref 22)), (.mk (PyData.keyHash P "__weakref__") (.str "__weakref__" 203) (.ref 25)), (.mk (PyData.keyHash P "__doc__") (.str "__doc__" 204) .none)] 3) #[])
def l10 : O := fun P => (.mk (.type "type") none (.cls (.mk "WoodError" [(.type "ValueError")] [(.ref 24), (.type "ValueError"), (.type "Exception"), (.type "BaseException"), (.type "object")] 23 "WoodError" .true [] [(.ref 37), (.ref 49), (.ref 61), (.ref 73), (.ref 85)] .false none .false)) #[(some (.ref 15)), none, (some (.str "WoodError" 189)), (some (.str "WoodError" 197)), (some (.builtin "ValueError.__new__")), (some (.bool .true))])
def l11 : O := fun P => (.mk (.type "getset_descriptor") none (.fields #[(.str "__weakref__" 202), (.ref 24), (.builtin "ExceptionGroup.__weakref__"), .none]) #[])
def l12 : O := fun P => (.mk (.type "super") none (.fields #[(.ref 24), (.ref 24), (.ref 24)]) #[])
def l13 : O := fun P => (.mk (.type "builtin_function_or_method") none (.fields #[(.builtin "object.__init_subclass__"), (.ref 24)]) #[])
def d1 : List O := h0 207 4 28 "TooMany"
def d2 : List O := h0 223 6 40 "NoBit"
def d3 : List O := h0 239 8 52 "NoPlace"
def d4 : List O := h0 255 10 64 "NoTree"
def d5 : List O := h0 271 12 76 "NoOctets"
def d6 : List O := h1 10 293 17 1 88 287 "packed" "thinwood.blocks"
def d7 : List O := h2 299 11 20 1 93 304 287 ["bits", "bit"] "check_row" "thinwood.blocks"
def d8 : List O := h2 307 12 26 1 100 313 287 ["bits", "block", "bit"] "block_of" "thinwood.blocks"
def d9 : List O := h2 316 13 31 2 107 323 287 ["blocks", "many", "bits", "block"] "unpacked" "thinwood.blocks"
def d10 : List O := h2 326 14 38 2 114 331 287 ["block", "k"] "bit_in" "thinwood.blocks"
def d11 : List O := h1 15 334 40 2 121 287 "bits_of" "thinwood.blocks"
def d12 : List O := h2 340 16 42 2 126 345 287 ["block", "upto"] "ones_in" "thinwood.blocks"
def d13 : List O := h2 348 17 44 2 133 356 287 ["block", "upto", "nets", "net", "bit"] "nets_of" "thinwood.blocks"
def d14 : List O := h2 359 18 51 2 140 364 287 ["block", "upto"] "low_in" "thinwood.blocks"
def l14 : O := fun P => (.mk (.type "tuple") none (.seq #[(.str "blocks" 370), (.str "look" 371)] 0) #[])
def l15 : O := fun P => (.mk (.type "tuple") none (.seq #[(.str "kept" 372)] 0) #[])
def l16 : O := fun P => (.mk .none none (.func (FuncData.mk "look_of" "look_of" (L2.defArgs (Tw.top 19)) (FuncBody.stmts (L2.defBody (Tw.top 19))) (L2.defScope (Tw.top 19)) 0 [] .none .none .none .none none .none .none 0)) #[])
def l17 : O := fun P => (.mk (.type "code") none (.fields #[(.str "look_of" 367), (.str "look_of" 368), (.str "/claim/cut.py" 369), (.int 53 0), (.int 1 0), (.int 0 0), (.int 0 0), (.int 3 0), (.ref 147), (.bool .true), (.int 181 0), (.ref 148), .none, (.ref 149), (.ref 150), (.ref 151), (.int 373 0), (.int 53 0), (.str "/claim/cut.py" 374)]) #[])
def l18 : O := fun P => (.mk (.type "function") none (.func (FuncData.mk "look_of" "look_of" (L2.defArgs (Tw.top 19)) (FuncBody.stmts (L2.defBody (Tw.top 19))) (L2.defScope (Tw.top 19)) 3 [] .none .none .none (.str "thinwood.blocks" 287) none (.ref 152) .none 0)) #[])
def d16 : List O := h2 378 21 60 2 154 386 376 ["number", "many", "octets", "rest", "k"] "octets_of" "thinwood.octets"
def d17 : List O := h2 389 22 67 1 161 395 376 ["octets", "number", "octet"] "number_of" "thinwood.octets"
def d18 : List O := h2 400 24 73 1 168 405 398 ["bits", "blocks"] "kept_row" "thinwood.rows"
def d19 : List O := h2 408 25 76 1 175 414 398 ["blocks", "ahead", "block"] "ahead_of" "thinwood.rows"
def d20 : List O := h2 421 28 83 1 182 428 417 ["numbers", "size", "nodes", "node"] "heap_of" "thinwood.heaps"
def d21 : List O := h2 431 29 91 1 189 436 417 ["many", "size"] "size_of" "thinwood.heaps"
def d22 : List O := h2 439 30 96 2 196 444 417 ["one", "other"] "lesser_of" "thinwood.heaps"
def d23 : List O := h2 449 32 103 1 203 456 447 ["bits", "level", "at", "bit"] "is_tree" "thinwood.brackets"
def d24 : List O := h2 459 33 110 1 210 463 447 ["bits"] "check_brackets" "thinwood.brackets"
def d25 : List O := h1 34 466 114 1 217 447 "kept_brackets" "thinwood.brackets"
def d26 : List O := h2 472 35 121 3 222 478 447 ["tables", "number", "block"] "low_of" "thinwood.brackets"
def d27 : List O := h2 481 36 123 2 229 486 447 ["tables", "number"] "base_of" "thinwood.brackets"
def d28 : List O := h2 489 37 125 2 236 494 447 ["number", "upto"] "end_within" "thinwood.brackets"
def d29 : List O := h2 501 40 129 1 243 507 497 ["depths", "ahead", "depth"] "check_depths" "thinwood.shapes"
def d30 : List O := h2 510 41 137 1 250 517 497 ["depths", "bits", "unclosed", "depth"] "brackets_of" "thinwood.shapes"
def d31 : List O := h2 520 42 146 1 257 527 497 ["bits", "depths", "unclosed", "bit"] "depths_of" "thinwood.shapes"
def d32 : List O := h2 530 43 155 1 264 534 497 ["depths"] "kept_tree" "thinwood.shapes"
def d33 : List O := h2 545 48 161 2 271 552 537 ["numbers", "size", "octets", "number"] "numbers_octets" "thinwood.written"
def d34 : List O := h2 555 49 166 2 278 560 537 ["blocks", "ahead"] "bits_octets" "thinwood.written"
def d35 : List O := h2 563 50 168 1 285 573 537 ["depths", "kept", "tables", "blocks", "first", "lows", "count"] "tree_octets" "thinwood.written"
def d36 : List O := h2 576 51 176 1 292 580 537 ["octets"] "read_tree" "thinwood.written"
def d37 : List O := h2 583 52 178 1 299 588 537 ["octets", "kept"] "opened_tree" "thinwood.written"
def d38 : List O := h2 591 53 181 3 306 599 537 ["octets", "tell", "write", "told", "again"] "read_as" "thinwood.written"
def d39 : List O := h2 602 54 191 1 313 607 537 ["octets", "octet"] "check_octets" "thinwood.written"
def d40 : List O := h2 610 55 195 3 320 616 537 ["octets", "at", "size"] "number_at" "thinwood.written"
def d41 : List O := h1 56 619 199 4 327 537 "numbers_at" "thinwood.written"
def d42 : List O := h2 625 57 201 1 332 629 537 ["many"] "block_total" "thinwood.written"
def d43 : List O := h2 632 58 203 3 339 638 537 ["octets", "at", "many"] "bits_at" "thinwood.written"
def d44 : List O := h2 641 59 205 1 346 645 537 ["octets"] "told_bits" "thinwood.written"
def d45 : List O := h2 648 60 207 1 353 652 537 ["octets"] "told_depths" "thinwood.written"
def d46 : List O := h2 657 62 210 2 360 662 655 ["_law_script", "_law_k"] "_law_cell_at" "law_thinwood_k86_trees_read"
def d47 : List O := h2 665 63 214 1 367 669 655 ["_law_found"] "_law_whole" "law_thinwood_k86_trees_read"
def d48 : List O := h2 672 64 216 1 374 684 655 ["_law_script", "_law_bits_here", "_law_depths", "_law_cell", "_law_number", "_law_many", "_law_up", "_law_k", "_law_deep"] "_law_bits" "law_thinwood_k86_trees_read"
def d49 : List O := h2 687 65 237 1 381 691 655 ["_law_number"] "_law_two" "law_thinwood_k86_trees_read"
def d50 : List O := h2 694 66 239 1 388 706 655 ["_law_bits_here", "_law_octets_here", "_law_start", "_law_octet", "_law_bit", "_law_ones", "_law_lows", "_law_low", "_law_at"] "_law_written" "law_thinwood_k86_trees_read"
def d51 : List O := h1 67 709 261 1 395 655 "_law_due" "law_thinwood_k86_trees_read"
def d52 : List O := h2 715 68 282 2 400 720 655 ["_law_way", "_law_octets_here"] "_law_asked" "law_thinwood_k86_trees_read"
def d53 : List O := h1 69 723 286 2 407 655 "_law_told" "law_thinwood_k86_trees_read"
def d54 : List O := h2 729 70 301 2 412 738 655 ["_law_octets_here", "_law_cell", "_law_number", "_law_at", "_law_drawn", "_law_bit"] "_law_changed" "law_thinwood_k86_trees_read"
def d55 : List O := h1 71 741 319 1 419 655 "_law_octets" "law_thinwood_k86_trees_read"
def d56 : List O := h1 72 747 340 2 424 655 "_law_opened" "law_thinwood_k86_trees_read"
def d57 : List O := h2 753 73 361 1 429 761 655 ["_law_script", "_law_octets_here", "_law_handed", "_law_due_here", "_law_found"] "law" "law_thinwood_k86_trees_read"
def f0 : List O := ap [PySem.W.boot_o_0, PySem.W.boot_o_1, PySem.W.boot_o_2, s0, PySem.W.boot_o_4, PySem.W.boot_o_5, PySem.W.boot_o_6, PySem.W.boot_o_7, PySem.W.boot_o_8, PySem.W.boot_o_9, PySem.W.boot_o_10, l0, s1, l1, l2, l3, l4, l5, l0, l6, l7, l8, l0, l9, l10, l11, l12, l13] (ap d1 (ap d2 (ap d3 (ap d4 (ap d5 (ap d6 (ap d7 (ap d8 (d9)))))))))
def f1 : List O := ap d10 (ap d11 (ap d12 (ap d13 (ap d14 (ap [l0, l6, l14, l15, l16, l17, l18] (ap d16 (ap d17 (ap d18 (d19)))))))))
def f2 : List O := ap d20 (ap d21 (ap d22 (ap d23 (ap d24 (ap d25 (ap d26 (ap d27 (ap d28 (d29)))))))))
def f3 : List O := ap d30 (ap d31 (ap d32 (ap d33 (ap d34 (ap d35 (ap d36 (ap d37 (ap d38 (d39)))))))))
def f4 : List O := ap d40 (ap d41 (ap d42 (ap d43 (ap d44 (ap d45 (ap d46 (ap d47 (ap d48 (d49)))))))))
def f5 : List O := ap d50 (ap d51 (ap d52 (ap d53 (ap d54 (ap d55 (ap d56 (d57)))))))
def ff : List O := ap f0 (ap f1 (ap f2 (ap f3 (ap f4 (f5)))))
def s2 : O := gd (Z "__name__" 165 (.str "thinwood.errors" 187) :: tk gg 9) 10
def l19 : O := fun P => (.mk .none none (.fields #[(.int 2 0), (.int 0 0), (.ref 20)]) #[])
def l20 : O := fun P => (.mk (.type "type") none (.cls (.mk "WoodError" [(.type "ValueError")] [(.ref 24), (.type "ValueError"), (.type "Exception"), (.type "BaseException"), (.type "object")] 23 "WoodError" .true [] [] .false none .false)) #[(some (.ref 15)), none, (some (.str "WoodError" 189)), (some (.str "WoodError" 197)), (some (.builtin "ValueError.__new__")), (some (.bool .true))])
def S_tree_63 : Params → PySem.W.BT := fun P => bt 6 (mp (fun x => x P) (ov (tk ff 28) [(3, s2), (8, l19), (11, l20)]))
def s3 : O := gd (Z "__name__" 165 (.str "thinwood.errors" 187) :: tk gg 10) 11
def s4 : O := tb (tk tt 2)
def l21 : O := fun P => (.mk (.type "type") none (.cls (.mk "WoodError" [(.type "ValueError")] [(.ref 24), (.type "ValueError"), (.type "Exception"), (.type "BaseException"), (.type "object")] 23 "WoodError" .true [] [(.ref 37)] .false none .false)) #[(some (.ref 15)), none, (some (.str "WoodError" 189)), (some (.str "WoodError" 197)), (some (.builtin "ValueError.__new__")), (some (.bool .true))])
def S_tree_78 : Params → PySem.W.BT := fun P => bt 7 (mp (fun x => x P) (ov (tk ff 40) [(3, s3), (8, s4), (11, l21)]))
def s5 : O := gd (Z "__name__" 165 (.str "thinwood.errors" 187) :: tk gg 11) 12
def s6 : O := tb (tk tt 3)
def l22 : O := fun P => (.mk (.type "type") none (.cls (.mk "WoodError" [(.type "ValueError")] [(.ref 24), (.type "ValueError"), (.type "Exception"), (.type "BaseException"), (.type "object")] 23 "WoodError" .true [] [(.ref 37), (.ref 49)] .false none .false)) #[(some (.ref 15)), none, (some (.str "WoodError" 189)), (some (.str "WoodError" 197)), (some (.builtin "ValueError.__new__")), (some (.bool .true))])
def S_tree_93 : Params → PySem.W.BT := fun P => bt 7 (mp (fun x => x P) (ov (tk ff 52) [(3, s5), (8, s6), (11, l22)]))
def s7 : O := gd (Z "__name__" 165 (.str "thinwood.errors" 187) :: tk gg 12) 13
def s8 : O := tb (tk tt 4)
def l23 : O := fun P => (.mk (.type "type") none (.cls (.mk "WoodError" [(.type "ValueError")] [(.ref 24), (.type "ValueError"), (.type "Exception"), (.type "BaseException"), (.type "object")] 23 "WoodError" .true [] [(.ref 37), (.ref 49), (.ref 61)] .false none .false)) #[(some (.ref 15)), none, (some (.str "WoodError" 189)), (some (.str "WoodError" 197)), (some (.builtin "ValueError.__new__")), (some (.bool .true))])
def S_tree_108 : Params → PySem.W.BT := fun P => bt 8 (mp (fun x => x P) (ov (tk ff 64) [(3, s7), (8, s8), (11, l23)]))
def s9 : O := gd (Z "__name__" 165 (.str "thinwood.errors" 187) :: tk gg 13) 14
def s10 : O := tb (tk tt 5)
def l24 : O := fun P => (.mk (.type "type") none (.cls (.mk "WoodError" [(.type "ValueError")] [(.ref 24), (.type "ValueError"), (.type "Exception"), (.type "BaseException"), (.type "object")] 23 "WoodError" .true [] [(.ref 37), (.ref 49), (.ref 61), (.ref 73)] .false none .false)) #[(some (.ref 15)), none, (some (.str "WoodError" 189)), (some (.str "WoodError" 197)), (some (.builtin "ValueError.__new__")), (some (.bool .true))])
def S_tree_123 : Params → PySem.W.BT := fun P => bt 8 (mp (fun x => x P) (ov (tk ff 76) [(3, s9), (8, s10), (11, l24)]))
def s11 : O := gd (Z "__name__" 165 (.str "thinwood.blocks" 287) :: tk gg 21) 22
def s12 : O := tb (tk tt 11)
def S_tree_171 : Params → PySem.W.BT := fun P => bt 8 (mp (fun x => x P) (ov (tk ff 121) [(3, s11), (8, s12)]))
def s13 : O := gd (Z "__name__" 165 (.str "thinwood.heaps" 417) :: tk gg 33) 34
def s14 : O := tb (tk tt 22)
def S_tree_248 : Params → PySem.W.BT := fun P => bt 9 (mp (fun x => x P) (ov (tk ff 196) [(3, s13), (8, s14)]))
def s15 : O := gd (Z "__name__" 165 (.str "thinwood.written" 537) :: tk gg 48) 49
def s16 : O := tb (tk tt 33)
def S_tree_325 : Params → PySem.W.BT := fun P => bt 10 (mp (fun x => x P) (ov (tk ff 271) [(3, s15), (8, s16)]))
def s17 : O := gd (Z "__name__" 165 (.str "thinwood.written" 537) :: tk gg 61) 62
def s18 : O := tb (tk tt 46)
def S_tree_416 : Params → PySem.W.BT := fun P => bt 10 (mp (fun x => x P) (ov (tk ff 360) [(3, s17), (8, s18)]))
def S_tree_494 : Params → PySem.W.BT := fun P => bt 10 (mp (fun x => x P) (ff))
def S_heap_495 : Params → Heap := fun P => Heap.mk (Array.mk (mp (fun x => x P) (ff))) (.mk [] [] [] 0 [] [] .false #[] [] 0 .false .false .false 0 [2000, 10, 10] .false 0 .true [] [] 0 .false)
def S_sts_49 : List Stmt := tk (List.drop 0 PySem.Challenge.pw_thinwood_k86_trees_read.main.body) 2
def S_sts_64 : List Stmt := tk (List.drop 2 PySem.Challenge.pw_thinwood_k86_trees_read.main.body) 1
def S_sts_79 : List Stmt := tk (List.drop 3 PySem.Challenge.pw_thinwood_k86_trees_read.main.body) 1
def S_sts_94 : List Stmt := tk (List.drop 4 PySem.Challenge.pw_thinwood_k86_trees_read.main.body) 1
def S_sts_109 : List Stmt := tk (List.drop 5 PySem.Challenge.pw_thinwood_k86_trees_read.main.body) 1
def S_sts_124 : List Stmt := tk (List.drop 6 PySem.Challenge.pw_thinwood_k86_trees_read.main.body) 9
def S_sts_172 : List Stmt := tk (List.drop 15 PySem.Challenge.pw_thinwood_k86_trees_read.main.body) 15
def S_sts_249 : List Stmt := tk (List.drop 30 PySem.Challenge.pw_thinwood_k86_trees_read.main.body) 18
def S_sts_326 : List Stmt := tk (List.drop 48 PySem.Challenge.pw_thinwood_k86_trees_read.main.body) 13
def S_sts_417 : List Stmt := tk (List.drop 61 PySem.Challenge.pw_thinwood_k86_trees_read.main.body) 13
def S_view : Program := { PySem.Challenge.pw_thinwood_k86_trees_read with main := { PySem.Challenge.pw_thinwood_k86_trees_read.main with body := mp Tw.top [1, 2, 3, 4, 5, 6, 8, 9, 10, 11, 12, 13, 14, 15, 16, 17, 18, 19, 21, 22, 24, 25, 27, 28, 29, 30, 32, 33, 34, 35, 36, 37, 39, 40, 41, 42, 43, 45, 46, 47, 48, 49, 50, 51, 52, 53, 54, 55, 56, 57, 58, 59, 60, 62, 63, 64, 65, 66, 67, 68, 69, 70, 71, 72, 73] } }
end
end Tp
theorem PySem.W.Fast.tw14598715356260435866 : True := trivial
noncomputable abbrev PySem.W.Fast.tw17166707354770889306 : PySem.Program := PySem.Challenge.pw_thinwood_k86_trees_read
theorem PySem.W.Fast.te17166707354770889306 : PySem.Challenge.pw_thinwood_k86_trees_read = PySem.W.Fast.tw17166707354770889306 := rfl
lay_quick Tp.g0 Tp.g1 Tp.g2 Tp.g3 Tp.g4 Tp.g5 Tp.g6 Tp.g7 Tp.gg Tp.s0 Tp.l0 Tp.s1 Tp.l1 Tp.l2 Tp.l3 Tp.l4 Tp.l5 Tp.l6 Tp.l7 Tp.l8 Tp.l9 Tp.l10 Tp.l11 Tp.l12 Tp.l13 Tp.d1 Tp.d2 Tp.d3 Tp.d4 Tp.d5 Tp.d6 Tp.d7 Tp.d8 Tp.d9 Tp.d10 Tp.d11 Tp.d12 Tp.d13 Tp.d14 Tp.l14
lay_quick Tp.l15 Tp.l16 Tp.l17 Tp.l18 Tp.d16 Tp.d17 Tp.d18 Tp.d19 Tp.d20 Tp.d21 Tp.d22 Tp.d23 Tp.d24 Tp.d25 Tp.d26 Tp.d27 Tp.d28 Tp.d29 Tp.d30 Tp.d31 Tp.d32 Tp.d33 Tp.d34 Tp.d35 Tp.d36 Tp.d37 Tp.d38 Tp.d39 Tp.d40 Tp.d41 Tp.d42 Tp.d43 Tp.d44 Tp.d45 Tp.d46 Tp.d47 Tp.d48 Tp.d49 Tp.d50 Tp.d51
lay_quick Tp.d52 Tp.d53 Tp.d54 Tp.d55 Tp.d56 Tp.d57 Tp.f0 Tp.f1 Tp.f2 Tp.f3 Tp.f4 Tp.f5 Tp.ff Tp.s2 Tp.l19 Tp.l20 Tp.S_tree_63 Tp.s3 Tp.s4 Tp.l21 Tp.S_tree_78 Tp.s5 Tp.s6 Tp.l22 Tp.S_tree_93 Tp.s7 Tp.s8 Tp.l23 Tp.S_tree_108 Tp.s9 Tp.s10 Tp.l24 Tp.S_tree_123 Tp.s11 Tp.s12 Tp.S_tree_171 Tp.s13 Tp.s14 Tp.S_tree_248 Tp.s15
lay_quick Tp.s16 Tp.S_tree_325 Tp.s17 Tp.s18 Tp.S_tree_416 Tp.S_tree_494 Tp.S_heap_495 Tp.S_sts_49 Tp.S_sts_64 Tp.S_sts_79 Tp.S_sts_94 Tp.S_sts_109 Tp.S_sts_124 Tp.S_sts_172 Tp.S_sts_249 Tp.S_sts_326 Tp.S_sts_417 Tp.S_view
namespace Tp
open PySem PySem.W.Fast
noncomputable abbrev _root_.PySem.W.Fast.tw951336019198339872 : Params → PySem.W.BT := tw11432227658251013801
theorem _root_.PySem.W.Fast.te951336019198339872 : S_tree_63 = _root_.PySem.W.Fast.tw951336019198339872 := te11432227658251013801
noncomputable abbrev _root_.PySem.W.Fast.tw4138436608409105438 : Params → PySem.W.BT := tw16269510630359031336
theorem _root_.PySem.W.Fast.te4138436608409105438 : S_tree_78 = _root_.PySem.W.Fast.tw4138436608409105438 := te16269510630359031336
noncomputable abbrev _root_.PySem.W.Fast.tw682030845567619428 : Params → PySem.W.BT := tw5549918322004914887
theorem _root_.PySem.W.Fast.te682030845567619428 : S_tree_93 = _root_.PySem.W.Fast.tw682030845567619428 := te5549918322004914887
noncomputable abbrev _root_.PySem.W.Fast.tw15063502994611861783 : Params → PySem.W.BT := tw10118726668083288838
theorem _root_.PySem.W.Fast.te15063502994611861783 : S_tree_108 = _root_.PySem.W.Fast.tw15063502994611861783 := te10118726668083288838
noncomputable abbrev _root_.PySem.W.Fast.tw10960835359501355467 : Params → PySem.W.BT := tw244363406318419850
theorem _root_.PySem.W.Fast.te10960835359501355467 : S_tree_123 = _root_.PySem.W.Fast.tw10960835359501355467 := te244363406318419850
noncomputable abbrev _root_.PySem.W.Fast.tw5954368088229718128 : Params → PySem.W.BT := tw15460273547819836408
theorem _root_.PySem.W.Fast.te5954368088229718128 : S_tree_171 = _root_.PySem.W.Fast.tw5954368088229718128 := te15460273547819836408
noncomputable abbrev _root_.PySem.W.Fast.tw7061020606633241574 : Params → PySem.W.BT := tw2164687623138655868
theorem _root_.PySem.W.Fast.te7061020606633241574 : S_tree_248 = _root_.PySem.W.Fast.tw7061020606633241574 := te2164687623138655868
noncomputable abbrev _root_.PySem.W.Fast.tw17844752696113802000 : Params → PySem.W.BT := tw13724782437695494825
theorem _root_.PySem.W.Fast.te17844752696113802000 : S_tree_325 = _root_.PySem.W.Fast.tw17844752696113802000 := te13724782437695494825
noncomputable abbrev _root_.PySem.W.Fast.tw1940306592375298665 : Params → PySem.W.BT := tw10967300236965459498
theorem _root_.PySem.W.Fast.te1940306592375298665 : S_tree_416 = _root_.PySem.W.Fast.tw1940306592375298665 := te10967300236965459498
noncomputable abbrev _root_.PySem.W.Fast.tw10198452566364325621 : Params → PySem.W.BT := tw16302714493657258863
theorem _root_.PySem.W.Fast.te10198452566364325621 : S_tree_494 = _root_.PySem.W.Fast.tw10198452566364325621 := te16302714493657258863
noncomputable abbrev _root_.PySem.W.Fast.tw11941805834970399515 : Params → Heap := tw12348664061305601301
theorem _root_.PySem.W.Fast.te11941805834970399515 : S_heap_495 = _root_.PySem.W.Fast.tw11941805834970399515 := te12348664061305601301
noncomputable abbrev _root_.PySem.W.Fast.tw10774287990698403934 : List Stmt := tw666750322614274432
theorem _root_.PySem.W.Fast.te10774287990698403934 : S_sts_49 = _root_.PySem.W.Fast.tw10774287990698403934 := te666750322614274432
noncomputable abbrev _root_.PySem.W.Fast.tw8067577322714535823 : List Stmt := tw5768192320520425421
theorem _root_.PySem.W.Fast.te8067577322714535823 : S_sts_64 = _root_.PySem.W.Fast.tw8067577322714535823 := te5768192320520425421
noncomputable abbrev _root_.PySem.W.Fast.tw5895420196779839004 : List Stmt := tw16161987442105222805
theorem _root_.PySem.W.Fast.te5895420196779839004 : S_sts_79 = _root_.PySem.W.Fast.tw5895420196779839004 := te16161987442105222805
noncomputable abbrev _root_.PySem.W.Fast.tw17091609154951520662 : List Stmt := tw11682420065776883047
theorem _root_.PySem.W.Fast.te17091609154951520662 : S_sts_94 = _root_.PySem.W.Fast.tw17091609154951520662 := te11682420065776883047
noncomputable abbrev _root_.PySem.W.Fast.tw5878914495202443714 : List Stmt := tw5728941507444464575
theorem _root_.PySem.W.Fast.te5878914495202443714 : S_sts_109 = _root_.PySem.W.Fast.tw5878914495202443714 := te5728941507444464575
noncomputable abbrev _root_.PySem.W.Fast.tw16118108676512696437 : List Stmt := tw3506674074365841151
theorem _root_.PySem.W.Fast.te16118108676512696437 : S_sts_124 = _root_.PySem.W.Fast.tw16118108676512696437 := te3506674074365841151
noncomputable abbrev _root_.PySem.W.Fast.tw7593500855351174728 : List Stmt := tw802402852354575061
theorem _root_.PySem.W.Fast.te7593500855351174728 : S_sts_172 = _root_.PySem.W.Fast.tw7593500855351174728 := te802402852354575061
noncomputable abbrev _root_.PySem.W.Fast.tw7820471344804853972 : List Stmt := tw534345940550266539
theorem _root_.PySem.W.Fast.te7820471344804853972 : S_sts_249 = _root_.PySem.W.Fast.tw7820471344804853972 := te534345940550266539
noncomputable abbrev _root_.PySem.W.Fast.tw12100216304533078383 : List Stmt := tw13941034511698198601
theorem _root_.PySem.W.Fast.te12100216304533078383 : S_sts_326 = _root_.PySem.W.Fast.tw12100216304533078383 := te13941034511698198601
noncomputable abbrev _root_.PySem.W.Fast.tw8822711394796731859 : List Stmt := tw4741304158275059305
theorem _root_.PySem.W.Fast.te8822711394796731859 : S_sts_417 = _root_.PySem.W.Fast.tw8822711394796731859 := te4741304158275059305
noncomputable abbrev _root_.PySem.W.Fast.tw2585847510749411002 : Program := tw11325136443342628617
theorem _root_.PySem.W.Fast.te2585847510749411002 : S_view = _root_.PySem.W.Fast.tw2585847510749411002 := te11325136443342628617
theorem _root_.PySem.W.Fast.te18255049824747094687 : True := trivial
end Tp

open PySem PySem.W PyProof.Rows
set_option maxRecDepth 100000 in
set_option maxHeartbeats 0 in
theorem PySem.Challenge.cw_thinwood_k86_trees_read_holds : PySem.Challenge.rw_thinwood_k86_trees_read.Holds := by
  w_on; o_law; k_head; (case hw => w_witness2)
  k_fill
  refine L2.walk_ofG (l := PySem.Challenge.rw_thinwood_k86_trees_read) (n := 63) (k := 15) (x := "_law_script") rfl (by decide) rfl ⟨rfl, by decide, by decide⟩ (fun w h Y => PySem.W.km_in_of Y) ?F
  case F =>
    intro w mg mb mean fa h KX TT hmg
    refine' Tw.all_mk KX TT hmg ?d0 ?d1 ?d2 ?d3 ?d4 ?d5 ?d6 ?d7 ?d8 ?a9 ?l9 ?c9 ?k9 ?tl_look_of ?tp_look_of ?tr_look_of ?d10 ?d11 ?d12 ?d13 ?d14 ?d15 ?d16 ?d17 ?d18 ?d19 ?d20 ?d21 ?d22 ?d23 ?d24 ?d25 ?d26 ?d27 ?d28 ?d29 ?d30 ?d31 ?d32 ?d33 ?d34 ?d35 ?d36 ?d37 ?d38 ?d39 ?d40 ?d41 ?d42 ?d43 ?d44 ?d45 ?d46 ?d47 ?d48 ?d49 ?d50 ?d51 ?z_ValueError ?z_bool ?z_enumerate ?z_int ?z_isinstance ?z_len ?z_list ?z_min ?z_range ?z_reversed ?z_sum ?z_tuple ?z_zip ?g_BLOCK_BITS ?g_BLOCK_OCTETS ?g_COUNT_OCTETS ?g_MOST_BITS ?g_MOST_NODES ?g_MOST_NUMBERS ?g_TREE ?q_NoBit ?q_NoOctets ?q_NoTree ?q_TooMany ?q_WoodError ?ex_NoBit ?ed_NoBit ?ega_NoBit ?eng_NoBit ?ecl_NoBit ?egt_NoBit ?etk_NoBit ?emo_NoBit ?emb_NoBit ?i_NoBit_NoBit ?i_NoBit_NoOctets ?i_NoBit_NoTree ?i_NoBit_TooMany ?i_NoBit_WoodError ?i_NoBit_ValueError ?ex_NoOctets ?ed_NoOctets ?ega_NoOctets ?eng_NoOctets ?ecl_NoOctets ?egt_NoOctets ?etk_NoOctets ?emo_NoOctets ?emb_NoOctets ?i_NoOctets_NoBit ?i_NoOctets_NoOctets ?i_NoOctets_NoTree ?i_NoOctets_TooMany ?i_NoOctets_WoodError ?i_NoOctets_ValueError ?ex_NoTree ?ed_NoTree ?ega_NoTree ?eng_NoTree ?ecl_NoTree ?egt_NoTree ?etk_NoTree ?emo_NoTree ?emb_NoTree ?i_NoTree_NoBit ?i_NoTree_NoOctets ?i_NoTree_NoTree ?i_NoTree_TooMany ?i_NoTree_WoodError ?i_NoTree_ValueError ?ex_TooMany ?ed_TooMany ?ega_TooMany ?eng_TooMany ?ecl_TooMany ?egt_TooMany ?etk_TooMany ?emo_TooMany ?emb_TooMany ?i_TooMany_NoBit ?i_TooMany_NoOctets ?i_TooMany_NoTree ?i_TooMany_TooMany ?i_TooMany_WoodError ?i_TooMany_ValueError ?ex_WoodError ?ed_WoodError ?ega_WoodError ?eng_WoodError ?ecl_WoodError ?egt_WoodError ?etk_WoodError ?emo_WoodError ?emb_WoodError ?i_WoodError_NoBit ?i_WoodError_NoOctets ?i_WoodError_NoTree ?i_WoodError_TooMany ?i_WoodError_WoodError ?i_WoodError_ValueError ?nt
    (case d0 | d1 | d2 | d3 | d4 | d5 | d6 | d7 | d8 | d10 | d11 | d12 | d13 | d14 | d15 | d16 | d17 | d18 | d19 | d20 | d21 | d22 | d23 | d24 | d25 | d26 | d27 | d28 | d29 | d30 | d31 | d32 | d33 | d34 | d35 | d36 | d37 | d38 | d39 | d40 | d41 | d42 | d43 | d44 | d45 | d46 | d47 | d48 | d49 | d50 | d51 => exact ⟨by k_is, L2.fun_mk (by k_is) (by k_is) (by k_is)⟩); (case a9 => k_is); (case l9 => k_is); (case c9 => k_is); (case k9 => k_is); (case tl_look_of => k_is); (case tp_look_of => rfl); (case tr_look_of => exact ⟨_, rfl⟩); (case z_ValueError => k_is); (case z_bool => k_is); (case z_enumerate => k_is); (case z_int => k_is); (case z_isinstance => k_is); (case z_len => k_is); (case z_list => k_is); (case z_min => k_is); (case z_range => k_is); (case z_reversed => k_is); (case z_sum => k_is); (case z_tuple => k_is); (case z_zip => k_is); (case g_BLOCK_BITS => k_is); (case g_BLOCK_OCTETS => k_is); (case g_COUNT_OCTETS => k_is); (case g_MOST_BITS => k_is); (case g_MOST_NODES => k_is); (case g_MOST_NUMBERS => k_is); (case g_TREE => k_is); (case q_NoBit => k_is); (case q_NoOctets => k_is); (case q_NoTree => k_is); (case q_TooMany => k_is); (case q_WoodError => k_is); (case ex_NoBit => k_exc); (case ed_NoBit => k_is); (case ega_NoBit => k_is); (case eng_NoBit => k_is); (case ecl_NoBit => k_is); (case egt_NoBit => k_is); (case etk_NoBit => k_is); (case emo_NoBit => k_is); (case emb_NoBit => k_is); (case i_NoBit_NoBit => kit_is); (case i_NoBit_NoOctets => kit_is); (case i_NoBit_NoTree => kit_is); (case i_NoBit_TooMany => kit_is); (case i_NoBit_WoodError => kit_is); (case i_NoBit_ValueError => kit_is); (case ex_NoOctets => k_exc); (case ed_NoOctets => k_is); (case ega_NoOctets => k_is); (case eng_NoOctets => k_is); (case ecl_NoOctets => k_is); (case egt_NoOctets => k_is); (case etk_NoOctets => k_is); (case emo_NoOctets => k_is); (case emb_NoOctets => k_is); (case i_NoOctets_NoBit => kit_is); (case i_NoOctets_NoOctets => kit_is); (case i_NoOctets_NoTree => kit_is); (case i_NoOctets_TooMany => kit_is); (case i_NoOctets_WoodError => kit_is); (case i_NoOctets_ValueError => kit_is); (case ex_NoTree => k_exc); (case ed_NoTree => k_is); (case ega_NoTree => k_is); (case eng_NoTree => k_is); (case ecl_NoTree => k_is); (case egt_NoTree => k_is); (case etk_NoTree => k_is); (case emo_NoTree => k_is); (case emb_NoTree => k_is); (case i_NoTree_NoBit => kit_is); (case i_NoTree_NoOctets => kit_is); (case i_NoTree_NoTree => kit_is); (case i_NoTree_TooMany => kit_is); (case i_NoTree_WoodError => kit_is); (case i_NoTree_ValueError => kit_is); (case ex_TooMany => k_exc); (case ed_TooMany => k_is); (case ega_TooMany => k_is); (case eng_TooMany => k_is); (case ecl_TooMany => k_is); (case egt_TooMany => k_is); (case etk_TooMany => k_is); (case emo_TooMany => k_is); (case emb_TooMany => k_is); (case i_TooMany_NoBit => kit_is); (case i_TooMany_NoOctets => kit_is); (case i_TooMany_NoTree => kit_is); (case i_TooMany_TooMany => kit_is); (case i_TooMany_WoodError => kit_is); (case i_TooMany_ValueError => kit_is); (case ex_WoodError => k_exc); (case ed_WoodError => k_is); (case ega_WoodError => k_is); (case eng_WoodError => k_is); (case ecl_WoodError => k_is); (case egt_WoodError => k_is); (case etk_WoodError => k_is); (case emo_WoodError => k_is); (case emb_WoodError => k_is); (case i_WoodError_NoBit => kit_is); (case i_WoodError_NoOctets => kit_is); (case i_WoodError_NoTree => kit_is); (case i_WoodError_TooMany => kit_is); (case i_WoodError_WoodError => kit_is); (case i_WoodError_ValueError => kit_is); (case nt => kernel_rfl)


