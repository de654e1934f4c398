import PyProof.Rows.All
import Wide.All
import OpenK.AllK
import Wide.FinOn
import Lean
import PyProof.EqAt
import PyProof.EqKinds
import PyProof.TupleCall
import PySem.Challenge.RW_thinwood_k43_a_tree_kept
-- CHANGE: your row's module here, as the last of these rows
set_option Elab.async false
set_option linter.all false
set_option maxRecDepth 100000
/-! THE HAND LAYER, for ints, bools, texts, own classes, LISTS and tuples (index, slices, in, append, pop ..), calls, loops. Paste it whole ahead of your own text; what your proof does not reach may be deleted. -/
namespace L2
open PySem PySem.Spec PyProof.Rows

/-- a key: an int or a str -/
abbrev Key := Sum Int Str
def keyIs : Key → Value → Bool
  | .inl k, v => Value.isInt k v
  | .inr x, v => Value.isStrOf x v
def keyH (w : World) : Key → Int
  | .inl k => hashInt k
  | .inr x => hashStr w x
theorem keyIs_shape : ∀ {k : Key} {v : Value}, keyIs k v = true → (∃ i t, k = Sum.inl i ∧ v = Value.int i t) ∨ (∃ x t, k = Sum.inr x ∧ v = Value.str x t)
  | .inl i, v, h => by
    obtain ⟨t, e⟩ := Value.isInt_shape (k := i) (v := v) h
    exact .inl ⟨i, t, rfl, e⟩
  | .inr x, v, h => by
    obtain ⟨t, e⟩ := Value.isStrOf_shape (x := x) (v := v) h
    exact .inr ⟨x, t, rfl, e⟩
theorem key_ll (a b : Int) : decide ((Sum.inl a : Key) = Sum.inl b) = (a == b) := by
  by_cases e : a = b
  · subst e; simp
  · have h : ¬ (Sum.inl a : Key) = Sum.inl b := fun q => e (Sum.inl.inj q)
    rw [decide_eq_false h]
    exact (beq_eq_false_iff_ne.mpr e).symm
theorem key_rr (a b : Str) : decide ((Sum.inr a : Key) = Sum.inr b) = decide (a = b) := by
  by_cases e : a = b
  · subst e; simp
  · have h : ¬ (Sum.inr a : Key) = Sum.inr b := fun q => e (Sum.inr.inj q)
    rw [decide_eq_false h, decide_eq_false e]
theorem key_lr (a : Int) (b : Str) : decide ((Sum.inl a : Key) = Sum.inr b) = false := decide_eq_false (fun q => nomatch q)
theorem key_rl (a : Str) (b : Int) : decide ((Sum.inr a : Key) = Sum.inl b) = false := decide_eq_false (fun q => nomatch q)

def mixKind (prog : Program) (w : World) : PySem.KeyKind prog w Key where
  is := keyIs
  hash := keyH w
  inj := fun v a b ha hb => by
    rcases keyIs_shape ha with ⟨i, t, rfl, rfl⟩ | ⟨x, t, rfl, rfl⟩
    · rcases keyIs_shape hb with ⟨j, u, rfl, e⟩ | ⟨y, u, rfl, e⟩
      · injection e with e1 _; rw [e1]
      · exact nomatch e
    · rcases keyIs_shape hb with ⟨j, u, rfl, e⟩ | ⟨y, u, rfl, e⟩
      · exact nomatch e
      · injection e with e1 _; rw [e1]
  byValue := fun k v h => by
    rcases keyIs_shape h with ⟨i, t, rfl, rfl⟩ | ⟨x, t, rfl, rfl⟩ <;> rfl
  pyHash := fun hv h => by
    rcases keyIs_shape hv with ⟨i, t, rfl, rfl⟩ | ⟨x, t, rfl, rfl⟩
    · exact wpAny_pyHash_int h
    · exact wpAny_pyHash_str h
  eqBool := fun hu hv h => by
    rcases keyIs_shape hu with ⟨i, t, rfl, rfl⟩ | ⟨x, t, rfl, rfl⟩
    · rcases keyIs_shape hv with ⟨j, u, rfl, rfl⟩ | ⟨y, u, rfl, rfl⟩
      · rw [key_ll] at h; exact wpAny_eqBool_int h
      · rw [key_lr] at h; exact SeqAt.EqAt.int_str i t y u _ _ _ _ h
    · rcases keyIs_shape hv with ⟨j, u, rfl, rfl⟩ | ⟨y, u, rfl, rfl⟩
      · rw [key_rl] at h; exact SeqAt.EqAt.str_int x t j u _ _ _ _ h
      · rw [key_rr] at h; exact wpAny_eqBool_str h
  «strs» := fun k x t v h => by
    rcases keyIs_shape h with ⟨i, u, rfl, e⟩ | ⟨y, u, rfl, e⟩
    · exact nomatch e
    · injection e with e1 _
      subst e1
      cases v <;> rfl

end L2

namespace L2
open PySem PySem.Spec PyProof.Rows

/-- a value, without the heap -/
inductive V where
  | non | bl (b : Bool) | int (i : Int) | str (x : Str) | byt (b : Array UInt8) | flt (b : UInt64) | ref (a : Addr) | ty (n : String)
  deriving DecidableEq

def RelV : V → Value → Prop
  | .non, u => u = Value.none
  | .bl b, u => u = Value.bool b
  | .int i, u => ∃ t, u = Value.int i t
  | .str x, u => ∃ t, u = Value.str x t
  | .byt b, u => ∃ t, u = Value.bytes b t
  | .flt b, u => ∃ t, u = Value.float b t
  | .ref a, u => u = Value.ref a
  | .ty n, u => u = Value.type n

abbrev Vals : List V → List Value → Prop := Paired RelV
theorem Vals.length {xs : List V} {us : List Value} (r : Vals xs us) : xs.length = us.length := Paired.length r
theorem Vals.get : ∀ {xs : List V} {us : List Value} {i : Nat} {x : V}, Vals xs us → xs[i]? = some x → ∃ u, us[i]? = some u ∧ RelV x u
  | _, _, _, _, .nil, e => by simp at e
  | _, _, 0, _, .cons r _, e => by simp at e; subst e; exact ⟨_, rfl, r⟩
  | _, _, i + 1, x, .cons _ t, e => by
    obtain ⟨u, h1, h2⟩ := Vals.get (i := i) (x := x) t (by simpa using e)
    exact ⟨u, by simpa using h1, h2⟩
theorem Vals.set {x : V} {u : Value} (r : RelV x u) : ∀ {xs : List V} {us : List Value} (i : Nat), Vals xs us → Vals (xs.set i x) (us.set i u)
  | _, _, _, .nil => .nil
  | _, _, 0, .cons _ t => .cons r t
  | _, _, i + 1, .cons q t => .cons q (Vals.set r i t)
theorem Vals.append : ∀ {xs ys : List V} {us ws : List Value}, Vals xs us → Vals ys ws → Vals (xs ++ ys) (us ++ ws)
  | _, _, _, _, .nil, s => s
  | _, _, _, _, .cons r t, s => .cons r (Vals.append t s)
theorem Vals.take : ∀ {xs : List V} {us : List Value} (n : Nat), Vals xs us → Vals (xs.take n) (us.take n)
  | _, _, 0, _ => .nil
  | _, _, _ + 1, .nil => .nil
  | _, _, n + 1, .cons r t => .cons r (Vals.take n t)
theorem Vals.drop : ∀ {xs : List V} {us : List Value} (n : Nat), Vals xs us → Vals (xs.drop n) (us.drop n)
  | _, _, 0, r => r
  | _, _, _ + 1, .nil => .nil
  | _, _, n + 1, .cons _ t => Vals.drop n t
def RelO : Option V → Option Value → Prop
  | some v, some u => RelV v u
  | none, none => True
  | _, _ => False
def KV {κ : Type} : List (κ × V) → List (κ × Value) → Prop := Paired fun (p : κ × V) (q : κ × Value) => p.1 = q.1 ∧ RelV p.2 q.2

/-- a key of a dict (00_mix): an int or a text -/
def kV : Key → V
  | .inl i => .int i
  | .inr x => .str x

/-- what stands at a tracked address -/
inductive HO where
  /-- a list -/
  | lst (xs : List V)
  /-- a tuple (never changes) -/
  | tup (xs : List V)
  /-- a dict whose keys are ints and texts; one whose keys are tuples of ints and texts (the empty one is both) -/
  | dK (kvs : List (Key × V)) | dT (kvs : List (List Key × V))
  /-- a set of ints: its members, its size -/
  | set (S : Int → Bool) (n : Nat)
  /-- an instance of the class at C, its dict at dx, its attributes -/
  | ins (C dx : Addr) (fs : List (Str × V))
  /-- the dict of the instance at x -/
  | own (x : Addr)
  /-- the dict of an exception -/
  | xd (fs : List (Str × V))
  /-- a bound method, f of x -/
  | met (f x : Addr)
  /-- a range object lo, lo + 1, .. below hi -/
  | rng (lo hi : Int)
  /-- a thing that is known to the object (the script; a dict while a loop walks it): read, never written while it is so -/
  | frz (o : Obj) (u : HO)
  /-- a code object's table -/
  | tbl (ps : Array Value)
  /-- any other thing, by what is true of its one object (a def of one's own: SetO a S n := HO.ext fun h => ..) -/
  | ext (φ : Heap → Prop)

abbrev Hp := Addr → Option HO
def upd (H : Hp) (a : Addr) (o : HO) : Hp := fun b => if b = a then some o else H b
theorem upd_same {H : Hp} {a : Addr} {o : HO} : upd H a o a = some o := by unfold upd; rw [if_pos rfl]
theorem upd_ne {H : Hp} {a b : Addr} {o : HO} (h : b ≠ a) : upd H a o b = H b := by unfold upd; rw [if_neg h]
theorem upd_upd {H : Hp} {a : Addr} {o u : HO} : upd (upd H a o) a u = upd H a u := by
  funext b; unfold upd; split <;> rfl
theorem ne_of_none {H : Hp} {a b : Addr} {o : HO} (h : H a = some o) (h' : H b = none) : a ≠ b := by
  intro e; subst e; rw [h] at h'; cases h'

section
variable (P : Program) (w : World)
def ObjOk (H : Hp) (h : Heap) (a : Addr) : HO → Prop
  | .lst xs => xs.length ≤ sizeLine ∧ ∃ (its : List Value) (n : Nat), Vals xs its ∧ h.get? a = some { cls := .type "list", data := .seq its.toArray n }
  | .tup xs => xs.length ≤ sizeLine ∧ ∃ its : List Value, Vals xs its ∧ IsTup h a its.toArray
  | .dK kvs => kvs.length ≤ sizeLine ∧ (a == sysModules) = false ∧ ∃ vs, KV kvs vs ∧ h.DictOf (mixKind P w) a vs
  | .dT kvs => kvs.length ≤ sizeLine ∧ (a == sysModules) = false ∧ ∃ xs : List (List Key × Addr × Value),
      Paired (fun (p : List Key × V) (q : List Key × Addr × Value) => p.1 = q.1 ∧ H q.2.1 = some (.tup (p.1.map kV)) ∧ RelV p.2 q.2.2) kvs xs ∧
      ∃ o es ep, h.get? a = some o ∧ o.ExactDict ∧ o.data = .dict es ep ∧ es.toList = xs.map (entryOfKey (tupleKind (mixKind P w))) ∧ (xs.map (·.1)).Nodup
  | .set S n => h.SetOf (intKind P w) a S n
  | .ins C dx fs => H dx = some (.own a) ∧ fs.length ≤ 1000 ∧ dx ≠ a ∧ h.get? a = some (PySem.W.instObj C dx) ∧
      ∃ mA, h.Ns1 dx mA ∧ (∀ f, RelO (fs.lookup f) (mA f)) ∧ PySem.Within mA (fs.map (·.1))
  | .own _ => ∃ o, h.get? a = some o
  | .xd fs => ∃ mA, h.Ns1 a mA ∧ ∀ f, RelO (fs.lookup f) (mA f)
  | .rng lo hi => ∃ t u v, h.get? a = some { cls := .type "range", data := .fields #[.int lo t, .int hi u, .int 1 v] }
  | .frz o u => h.get? a = some o ∧ ObjOk H h a u
  | .tbl ps => h.get? a = some { cls := .none, data := .fields ps }
  | .met f x => h.get? a = some (PySem.W.methodObj (.ref f) (.ref x))
  | .ext φ => φ h ∧ (∃ o, h.get? a = some o) ∧ ∀ h1 h2 : Heap, φ h1 → (∀ o, h1.get? a = some o → h2.get? a = some o) → φ h2
/-- the abstract heap is held -/
def HOk (H : Hp) (h : Heap) : Prop := ∀ a o, H a = some o → ObjOk P w H h a o
end

section
variable {P : Program} {w : World} {H H' : Hp} {h h' : Heap} {a : Addr} {o : HO}
theorem ObjOk.lt (x : ObjOk P w H h a o) : a < h.objs.size := by
  cases o with
  | lst xs => obtain ⟨_, _, _, _, e⟩ := x; exact Heap.lt_size e
  | tup xs => obtain ⟨_, _, _, p⟩ := x; exact p.lt
  | dK kvs => obtain ⟨_, _, _, _, o, _, _, e, _⟩ := x; exact Heap.lt_size e
  | dT kvs => obtain ⟨_, _, _, _, o, _, _, e, _⟩ := x; exact Heap.lt_size e
  | set S n => obtain ⟨o, _, _, _, e, _⟩ := x; exact Heap.lt_size e
  | ins C dx fs => obtain ⟨_, _, _, e, _⟩ := x; exact Heap.lt_size e
  | own y => obtain ⟨_, e⟩ := x; exact Heap.lt_size e
  | xd fs => obtain ⟨_, ⟨_, _, _, e, _⟩, _⟩ := x; exact Heap.lt_size e
  | rng lo hi => obtain ⟨_, _, _, e⟩ := x; exact Heap.lt_size e
  | frz ob u => obtain ⟨e, _⟩ := x; exact Heap.lt_size e
  | tbl ps => exact Heap.lt_size (show h.get? a = some _ from x)
  | met f y => exact Heap.lt_size (show h.get? a = some _ from x)
  | ext φ => obtain ⟨_, ⟨_, e⟩, _⟩ := x; exact Heap.lt_size e
theorem Paired.mapP {α β : Type} {F G : α → β → Prop} : ∀ {l₁ : List α} {l₂ : List β}, Paired F l₁ l₂ → (∀ a b, F a b → G a b) → Paired G l₁ l₂
  | _, _, .nil, _ => .nil
  | _, _, .cons r t, f => .cons (f _ _ r) (Paired.mapP t f)
/-- what an object's description leans on: its own object, its own dict, the tuples -/
theorem ObjOk.stay (x : ObjOk P w H h a o) (k : ∀ b u, (b = a ∨ H b = some (.own a)) → h.get? b = some u → h'.get? b = some u)
    (ho : ∀ b, H b = some (.own a) → H' b = some (.own a)) (ht : ∀ b xs, H b = some (.tup xs) → H' b = some (.tup xs)) : ObjOk P w H' h' a o := by
  induction o with
  | lst xs => obtain ⟨z, its, n, r, e⟩ := x; exact ⟨z, its, n, r, k _ _ (.inl rfl) e⟩
  | tup xs => obtain ⟨z, its, r, ob, e, c⟩ := x; exact ⟨z, its, r, ob, k _ _ (.inl rfl) e, c⟩
  | dK kvs => obtain ⟨z, y, vs, r, ob, es, ep, e, c⟩ := x; exact ⟨z, y, vs, r, ob, es, ep, k _ _ (.inl rfl) e, c⟩
  | dT kvs =>
    obtain ⟨z, y, xs, r, ob, es, ep, e, c⟩ := x
    exact ⟨z, y, xs, Paired.mapP r fun p q z => ⟨z.1, ht _ _ z.2.1, z.2.2⟩, ob, es, ep, k _ _ (.inl rfl) e, c⟩
  | set S n => obtain ⟨ob, es, ep, t, e, c⟩ := x; exact ⟨ob, es, ep, t, k _ _ (.inl rfl) e, c⟩
  | ins C dx fs =>
    obtain ⟨d, z, ne, e, mA, ⟨od, es, ep, e2, c⟩, r⟩ := x
    exact ⟨ho _ d, z, ne, k _ _ (.inl rfl) e, mA, ⟨od, es, ep, k _ _ (.inr d) e2, c⟩, r⟩
  | own y => obtain ⟨ob, e⟩ := x; exact ⟨ob, k _ _ (.inl rfl) e⟩
  | xd fs => obtain ⟨mA, ⟨od, es, ep, e, c⟩, r⟩ := x; exact ⟨mA, ⟨od, es, ep, k _ _ (.inl rfl) e, c⟩, r⟩
  | rng lo hi => obtain ⟨t, u, v, e⟩ := x; exact ⟨t, u, v, k _ _ (.inl rfl) e⟩
  | frz ob u ih => obtain ⟨e, q⟩ := x; exact ⟨k _ _ (.inl rfl) e, ih q⟩
  | tbl ps =>
    have e : h.get? a = some { cls := .none, data := .fields ps } := x
    show h'.get? a = some { cls := .none, data := .fields ps }
    exact k a _ (.inl rfl) e
  | met f y =>
    have e : h.get? a = some (PySem.W.methodObj (.ref f) (.ref y)) := x
    show h'.get? a = some (PySem.W.methodObj (.ref f) (.ref y))
    exact k a _ (.inl rfl) e
  | ext φ => obtain ⟨p, ⟨o, e⟩, st⟩ := x; exact ⟨st _ _ p fun o q => k _ _ (.inl rfl) q, ⟨o, k _ _ (.inl rfl) e⟩, st⟩
theorem HOk.lt (x : HOk P w H h) (e : H a = some o) : a < h.objs.size := (x a o e).lt
theorem HOk.fresh (x : HOk P w H h) (e : h.objs.size ≤ a) : H a = none := by
  cases q : H a with
  | none => rfl
  | some u => exact absurd (Nat.lt_of_lt_of_le (x.lt q) e) (Nat.lt_irrefl _)
/-- every object of the heap is kept -/
theorem HOk.kept (x : HOk P w H h) (k : ∀ b u, h.get? b = some u → h'.get? b = some u) : HOk P w H h' := fun a o e =>
  (x a o e).stay (fun b u _ q => k b u q) (fun _ q => q) fun _ _ q => q
/-- a new object is laid and tracked -/
theorem HOk.laid (x : HOk P w H h) (k : ∀ b u, h.get? b = some u → h'.get? b = some u) (hp : h.objs.size ≤ a) (new : ObjOk P w (upd H a o) h' a o) : HOk P w (upd H a o) h' := fun b u e => by
  have hn := x.fresh hp
  by_cases hb : b = a
  · subst hb; rw [upd_same] at e; cases e; exact new
  · rw [upd_ne hb] at e
    exact (x b u e).stay (fun c v _ q => k c v q) (fun c q => by rw [upd_ne (ne_of_none q hn)]; exact q) fun c xs q => by rw [upd_ne (ne_of_none q hn)]; exact q
end

/-- what may be read as u: it is u, or a known u -/
def Rd (H : Hp) (a : Addr) (u : HO) : Prop := H a = some u ∨ ∃ o, H a = some (.frz o u)
theorem Rd.ok {P : Program} {w : World} {H : Hp} {h : Heap} {a : Addr} {u : HO} (r : Rd H a u) (x : HOk P w H h) : ObjOk P w H h a u := by
  rcases r with r | ⟨o, r⟩
  · exact x a u r
  · obtain ⟨_, q⟩ := x a _ r
    exact q
/-- what may be written -/
def Mut : Option HO → Prop
  | some (.lst _) => True
  | some (.dK _) => True
  | some (.dT _) => True
  | some (.set _ _) => True
  | some (.ins _ _ _) => True
  | some (.ext _) => True
  | _ => False
section
variable {P : Program} {w : World} {H : Hp} {h h' : Heap} {x e : Addr} {o' : HO}
/-- the object at e is changed: x itself, or the dict of the instance x -/
theorem HOk.write (ok : HOk P w H h) (mu : Mut (H x)) (he : e = x ∨ H e = some (.own x)) (k : ∀ b u, b ≠ e → h.get? b = some u → h'.get? b = some u) (heo : ∃ u, h'.get? e = some u)
    (new : ObjOk P w (upd H x o') h' x o') : HOk P w (upd H x o') h' := fun b u q => by
  have nown : ∀ c y, H c = some (.own y) → c ≠ x := fun c y r z => by subst z; rw [r] at mu; exact mu
  have ntup : ∀ c xs, H c = some (.tup xs) → c ≠ x := fun c xs r z => by subst z; rw [r] at mu; exact mu
  by_cases hb : b = x
  · subst hb; rw [upd_same] at q; cases q; exact new
  · rw [upd_ne hb] at q
    by_cases hbe : b = e
    · have q' : H b = some (.own x) := by
        rcases he with z | z
        · exact absurd (hbe.trans z) hb
        · rw [hbe]; exact z
      rw [q] at q'; cases q'
      obtain ⟨v, hv⟩ := heo
      exact ⟨v, by rw [hbe]; exact hv⟩
    · refine (ok b u q).stay (fun c v hc r => k c v ?_ r) (fun c r => by rw [upd_ne (nown c b r)]; exact r) fun c xs r => by rw [upd_ne (ntup c xs r)]; exact r
      rcases hc with rfl | hc
      · exact hbe
      · rintro rfl
        rcases he with z | z
        · exact nown c b hc z
        · rw [hc] at z; cases z; exact hb rfl
end

/-! ### kept unless tracked; of the frames at fs (the callers') the slots may change (an exception that passes writes there); of the records at ex (iterators) nothing is said -/
structure Un (fs ex : List Addr) (H H' : Hp) (h h' : Heap) : Prop where
  keep : ∀ b o, h.get? b = some o → H b = none → b ∉ fs → b ∉ ex → h'.get? b = some o
  slot : ∀ b o, h.get? b = some o → H b = none → b ∈ fs → b ∉ ex → ∃ sl, h'.get? b = some { o with slots := sl }
  free : ∀ b o, h.get? b = some o → H b = none → b ∉ ex → H' b = none
  there : ∀ b o, h.get? b = some o → b ∉ ex → ∃ o', h'.get? b = some o'
  tups : ∀ b xs, H b = some (.tup xs) → H' b = some (.tup xs)
  frzs : ∀ b o u, H b = some (.frz o u) → H' b = some (.frz o u)
  tbls : ∀ b ps, H b = some (.tbl ps) → ∃ more, H' b = some (.tbl (ps ++ more))
section
variable {fs fs' ex ex' : List Addr} {H H1 H2 : Hp} {h h1 h2 h' : Heap} {a x e : Addr} {o : HO}
theorem Un.any (u : Un fs ex H H1 h h1) {b : Addr} {ob : Obj} (q : h.get? b = some ob) (n : H b = none) (hx : b ∉ ex) : ∃ sl, h1.get? b = some { ob with slots := sl } := by
  by_cases hb : b ∈ fs
  · exact u.slot b ob q n hb hx
  · exact ⟨ob.slots, u.keep b ob q n hb hx⟩
theorem Un.kept (k : ∀ b u, h.get? b = some u → h'.get? b = some u) : Un fs ex H H h h' :=
  ⟨fun b ob q _ _ _ => k b ob q, fun b ob q _ _ _ => ⟨ob.slots, k b ob q⟩, fun _ _ _ n _ => n, fun b ob q _ => ⟨ob, k b ob q⟩, fun _ _ q => q, fun _ _ _ q => q, fun _ ps q => ⟨#[], by rw [q]; simp⟩⟩
theorem Un.refl : Un fs ex H H h h := Un.kept fun _ _ q => q
theorem Un.laid (k : ∀ b u, h.get? b = some u → h'.get? b = some u) (hp : h.objs.size ≤ a) (hn : H a = none) : Un fs ex H (upd H a o) h h' where
  keep := fun b u q _ _ _ => k b u q
  slot := fun b u q _ _ _ => ⟨u.slots, k b u q⟩
  free := fun b u q n _ => by rw [upd_ne (Nat.ne_of_lt (Nat.lt_of_lt_of_le (Heap.lt_size q) hp))]; exact n
  there := fun b u q _ => ⟨u, k b u q⟩
  tups := fun b xs q => by rw [upd_ne (ne_of_none q hn)]; exact q
  frzs := fun b u xs q => by rw [upd_ne (ne_of_none q hn)]; exact q
  tbls := fun b ps q => ⟨#[], by rw [upd_ne (ne_of_none q hn), q]; simp⟩
theorem Un.write (mu : Mut (H x)) (he : e = x ∨ H e = some (.own x)) (k : ∀ b u, b ≠ e → h.get? b = some u → h'.get? b = some u) (heo : ∃ u, h'.get? e = some u) : Un fs ex H (upd H x o) h h' := by
  have hx : ∀ b, H b = none → b ≠ x := fun b n z => by subst z; rw [n] at mu; exact mu
  have hb : ∀ b, H b = none → b ≠ e := fun b n z => by
    subst z
    rcases he with r | r
    · exact hx b n r
    · rw [n] at r; cases r
  have hm : ∀ b u, H b = some u → ¬ Mut (some u) → b ≠ x := fun b u q nm z => by subst z; rw [q] at mu; exact nm mu
  refine ⟨fun b u q n _ _ => k b u (hb b n) q, fun b u q n _ _ => ⟨u.slots, k b u (hb b n) q⟩, fun b u q n _ => by rw [upd_ne (hx b n)]; exact n, fun b u q _ => ?_,
    fun b xs q => by rw [upd_ne (hm b _ q fun z => z)]; exact q, fun b u xs q => by rw [upd_ne (hm b _ q fun z => z)]; exact q, fun b ps q => ⟨#[], by rw [upd_ne (hm b _ q fun z => z), q]; simp⟩⟩
  by_cases hbe : b = e
  · subst hbe; exact heo
  · exact ⟨u, k b u hbe q⟩
end

/-! ### the heap without what is tracked -/
def trk (h : Heap) (H : Hp) : List Addr := (List.range h.objs.size).filter fun a => (H a).isSome
def hidT (h : Heap) (H : Hp) : Heap := PySem.W.hideAll h (trk h H)
theorem hidT_size (h : Heap) (H : Hp) : (hidT h H).objs.size = h.objs.size := PySem.W.hideAll_size _ _
theorem hidT_get {h : Heap} {H : Hp} {b : Addr} {o : Obj} (e : h.get? b = some o) (n : H b = none) : (hidT h H).get? b = some o :=
  PySem.W.hideAll_get _ e fun hm => by
    have q : (H b).isSome = true := (List.mem_filter.mp hm).2
    rw [n] at q; simp at q
theorem of_hidT {h : Heap} {H : Hp} {b : Addr} {o : Obj} (e : (hidT h H).get? b = some o) : h.get? b = some o ∧ H b = none := by
  have e' : h.get? b = some o := PySem.W.of_hideAll (trk h H) e
  refine ⟨e', ?_⟩
  cases q : H b with
  | none => rfl
  | some x =>
    have hm : b ∈ trk h H := List.mem_filter.mpr ⟨List.mem_range.mpr (Heap.lt_size e'), by simp [q]⟩
    have z : (hidT h H).get? b = none := PySem.W.hideAll_none (trk h H) hm
    rw [z] at e; cases e

/-! ### OpenK's ledger, filled with every new object but one -/
def allNews (g h : Heap) (L : Addr) : List (Addr × Obj) := (List.range h.objs.size).filterMap fun a => if a = L ∨ (g.get? a).isSome = true then none else (h.get? a).map fun o => (a, o)
def rest (g h : Heap) (L d : Addr) : List (Addr × Obj) := (allNews g h L).filter fun p => decide (p.1 ≠ d)
end L2

namespace L2
open PySem PySem.Spec PyProof.Rows

/-- the module's facts, over the base: the heap at the law's entry without what is tracked there -/
structure Mod (K : PySem.W.Frag) (mg : Str → Option Value) (base : Heap) : Prop where
  kin : K.In base
  glob : base.Ns mainGlobals mg
  blt : ∃ mb, base.Ns builtinsNs mb ∧ ∀ x : Str, x ≠ "__name__" → mb x = bootBuiltins x
  nolimit : base.NoLimit

/-- the context: a def's body (or a comprehension's block) running. base: fixed through the whole law; s₀, H₀: the entry; outer: the frames whose slots others may change (a def's callers); stack: all frames that run;
   ex: iterators that were made ahead of the entry and are walked here (a comprehension's); fn: the names whose cells were made at the entry (a def: all; a comprehension's block: its own); calm: not within an except suite; pn: pins that every state bears; xe: what is wanted of an exception that leaves the code -/
structure Cx where
  prog : Program
  w : World
  K : PySem.W.Frag
  mg : Str → Option Value
  base : Heap
  A : Around
  N : List Str
  s₀ : Shared
  H₀ : Hp
  env : Env
  outer : List Env
  stack : List Env
  ex : List Addr
  fn : Str → Bool
  calm : Bool
  pn : List (Addr × Obj)
  xe : Value → Shared → Prop
/-- the callers' frames -/
def frs (l : List Env) : List Addr := l.filterMap (·.frame)
abbrev Cx.fs (X : Cx) : List Addr := frs X.outer

def Vis (sc : Scope) (x : Str) : Prop := sc.names.lookup x = some .local ∨ sc.names.lookup x = some .cell ∨ sc.names.lookup x = some .free
def Loc (sc : Scope) (x : Str) : Prop := sc.names.lookup x = some .local ∨ sc.names.lookup x = some .cell
def Look (env : Env) (h : Heap) (m : Str → Option Value) (x : Str) (u : Value) : Prop :=
  (env.kindOf x = some .local ∧ m x = some u) ∨ ((env.kindOf x = some .cell ∨ env.kindOf x = some .free) ∧ ∃ c, env.cells.lookup x = some c ∧ h.IsCell c (some u))

structure Cx.Ok (X : Cx) : Prop where
  mod : Mod X.K X.mg X.base
  kind : X.env.scope.kind = .function
  glob : X.env.globals = mainGlobals
  blt : X.env.builtins = builtinsNs
  above : X.s₀.heap.objs.size ≤ X.env.locals
  inj : ∀ x y c, X.env.cells.lookup x = some c → X.env.cells.lookup y = some c → x = y
  has : ∀ x, (X.env.kindOf x = some .cell ∨ X.env.kindOf x = some .free) → ∃ c, X.env.cells.lookup x = some c
  cab : ∀ x c, X.fn x = true → X.env.cells.lookup x = some c → X.s₀.heap.objs.size ≤ c
  hd : X.calm = true → X.A.handled = none
  frames : X.A.frames = some X.stack
  stk : X.stack = X.outer ∨ (X.stack = X.env :: X.outer ∧ X.env.frame = some X.env.locals)
  exf : ∀ b ∈ X.ex, b ≠ X.env.locals ∧ ∀ x c, X.env.cells.lookup x = some c → c ≠ b
  bs : ∀ b o, X.base.get? b = some o → X.s₀.heap.get? b = some o ∧ X.H₀ b = none
  bsz : X.base.objs.size ≤ X.s₀.heap.objs.size
  noex : ∀ b o, X.base.get? b = some o → b ∉ X.ex
  exfs : ∀ b ∈ X.ex, b ∉ X.fs
  funs : X.s₀.heap.FunFrames X.base X.outer
  frf : ∀ b ∈ X.fs, X.H₀ b = none

structure Inv (X : Cx) (pins : List (Addr × Obj)) (σ : List (Option V)) (H : Hp) (s : Shared) : Prop where
  ok : X.Ok
  os : s.os = X.s₀.os
  bare : AllBare s.gens
  base : Un X.fs X.ex X.H₀ H X.s₀.heap s.heap
  loc : ∃ m, s.heap.Ns X.env.locals m ∧ ∀ (i : Nat) (x : Str) (v : V), X.N[i]? = some x → σ[i]? = some (some v) → Vis X.env.scope x → ∃ u, RelV v u ∧ Look X.env s.heap m x u
  cell : ∀ x c, X.env.cells.lookup x = some c → ∃ v, s.heap.IsCell c v
  free : H X.env.locals = none
  freeC : ∀ x c, X.env.cells.lookup x = some c → H c = none
  pin : ∀ p ∈ X.pn ++ pins, s.heap.get? p.1 = some p.2 ∧ H p.1 = none ∧ p.1 ≠ X.env.locals ∧ p.1 ∉ X.fs ∧ ∀ v, p.2.data ≠ .cell v
  hok : HOk X.prog X.w H s.heap
  len : σ.length = X.N.length

section
variable {X : Cx} {pins : List (Addr × Obj)} {σ : List (Option V)} {H H' : Hp} {s : Shared} {h' : Heap}

theorem Cx.Ok.nofr (ok : X.Ok) {b : Addr} {o : Obj} (e : X.base.get? b = some o) : b ∉ X.fs := fun hb => by
  have := (ok.funs.mem hb).1
  rw [e] at this; cases this
theorem Inv.bs (I : Inv X pins σ H s) : ∀ b o, X.base.get? b = some o → s.heap.get? b = some o ∧ H b = none := fun b o e =>
  ⟨I.base.keep b o (I.ok.bs b o e).1 (I.ok.bs b o e).2 (I.ok.nofr e) (I.ok.noex b o e), I.base.free b o (I.ok.bs b o e).1 (I.ok.bs b o e).2 (I.ok.noex b o e)⟩
theorem Inv.bk (I : Inv X pins σ H s) : ∀ b o, X.base.get? b = some o → s.heap.get? b = some o := fun b o e => (I.bs b o e).1
theorem Inv.mod (I : Inv X pins σ H s) : Mod X.K X.mg X.base := I.ok.mod
theorem Inv.kIn (I : Inv X pins σ H s) : X.K.In s.heap := I.ok.mod.kin.keeps I.bk
theorem Inv.lt (I : Inv X pins σ H s) : X.env.locals < s.heap.objs.size := let ⟨_, hn, _⟩ := I.loc; hn.lt
theorem Inv.sz (I : Inv X pins σ H s) : X.s₀.heap.objs.size ≤ s.heap.objs.size := Nat.le_trans I.ok.above (Nat.le_of_lt I.lt)
theorem Inv.nofs (I : Inv X pins σ H s) {a : Addr} (h : s.heap.objs.size ≤ a) : a ∉ X.fs := fun hb => by
  obtain ⟨_, o, ho, _⟩ := I.ok.funs.mem hb
  exact absurd (Nat.lt_of_lt_of_le (Heap.lt_size ho) (Nat.le_trans I.sz h)) (Nat.lt_irrefl _)
theorem Inv.cne (I : Inv X pins σ H s) : ∀ x c, X.env.cells.lookup x = some c → c ≠ X.env.locals := fun x c e z => by
  obtain ⟨v, o, ho, hd⟩ := I.cell x c e
  obtain ⟨m, ⟨o', es, ep, ho', hd', _⟩, _⟩ := I.loc
  rw [z, ho'] at ho; cases ho; rw [hd'] at hd; cases hd
theorem Inv.funs (I : Inv X pins σ H s) : s.heap.FunFrames X.base X.outer := by
  have all : ∀ (l : List Env), (∀ b ∈ frs l, b ∈ X.fs) → X.s₀.heap.FunFrames X.base l → s.heap.FunFrames X.base l := by
    intro l
    induction l with
    | nil => intro _ _; trivial
    | cons env r ih =>
      intro hs hl
      obtain ⟨hk, ⟨L, o, hf, hn, ho, hd⟩, hr⟩ := hl
      have hL : L ∈ X.fs := hs L (by unfold frs; rw [List.filterMap_cons, hf]; exact List.mem_cons_self)
      obtain ⟨sl, e⟩ := I.base.slot L o ho (I.ok.frf L hL) hL fun z => I.ok.exfs L z hL
      exact ⟨hk, ⟨L, _, hf, hn, e, hd⟩, ih (fun b hb => hs b (by unfold frs; rw [List.filterMap_cons, hf]; exact List.mem_cons_of_mem _ hb)) hr⟩
  exact all X.outer (fun _ hb => hb) I.ok.funs

/-- the frames that run, for a call -/
theorem Inv.stack (I : Inv X pins σ H s) : s.heap.FunFrames X.base X.stack := by
  rcases I.ok.stk with e | ⟨e, hf⟩
  · rw [e]; exact I.funs
  · rw [e]
    obtain ⟨m, hn, _⟩ := I.loc
    refine .cons (by rw [I.ok.kind]; decide) hf hn ?_ I.funs
    exact Heap.get?_none_of_le (Nat.le_trans I.ok.bsz I.ok.above)
theorem Inv.stkSub (I : Inv X pins σ H s) : ∀ b ∈ frs X.stack, b ∈ X.env.locals :: X.fs := fun b hb => by
  rcases I.ok.stk with e | ⟨e, hf⟩
  · rw [e] at hb; exact List.mem_cons_of_mem _ hb
  · rw [e] at hb
    unfold frs at hb
    rw [List.filterMap_cons, hf] at hb
    exact hb
theorem Inv.stkFree (I : Inv X pins σ H s) : ∀ b ∈ frs X.stack, H b = none := fun b hb => by
  rcases List.mem_cons.mp (I.stkSub b hb) with e | hb
  · rw [e]; exact I.free
  · obtain ⟨_, o, ho, _⟩ := I.ok.funs.mem hb
    exact I.base.free b o ho (I.ok.frf b hb) fun z => I.ok.exfs b z hb

/-- THE STEP: the untracked objects but the frame and the records at ch are kept (the callers' frames up to slots), the frame's map is kept, the new abstract heap is held -/
theorem Inv.step {g' : Array GenState} {t' : Nat} {d' : Drawn} {ch : List Addr} (I : Inv X pins σ H s)
    (hch : ∀ b ∈ ch, (b ∈ X.ex ∨ X.s₀.heap.objs.size ≤ b) ∧ b ≠ X.env.locals ∧ (∀ x c, X.env.cells.lookup x = some c → c ≠ b) ∧ ∀ p ∈ X.pn ++ pins, p.1 ≠ b)
    (keep : ∀ b o, b ≠ X.env.locals → b ∉ X.fs → b ∉ ch → s.heap.get? b = some o → H b = none → h'.get? b = some o)
    (slot : ∀ b o, b ≠ X.env.locals → b ∈ X.fs → b ∉ ch → s.heap.get? b = some o → H b = none → ∃ sl, h'.get? b = some { o with slots := sl }) (free : ∀ b o, b ∉ ch → s.heap.get? b = some o → H b = none → H' b = none)
    (there : ∀ b o, b ∉ ch → s.heap.get? b = some o → ∃ o', h'.get? b = some o')
    (tups : ∀ b xs, H b = some (.tup xs) → H' b = some (.tup xs)) (frzs : ∀ b o u, H b = some (.frz o u) → H' b = some (.frz o u)) (tbls : ∀ b ps, H b = some (.tbl ps) → ∃ more, H' b = some (.tbl (ps ++ more)))
    (ns : ∀ m, s.heap.Ns X.env.locals m → h'.Ns X.env.locals m) (hok : HOk X.prog X.w H' h') (hg : AllBare g') :
    Inv X pins σ H' { s with heap := h', gens := g', drawn := d', toks := t' } := by
  have neL : ∀ b o, X.s₀.heap.get? b = some o → b ≠ X.env.locals := fun b o e => Nat.ne_of_lt (Nat.lt_of_lt_of_le (Heap.lt_size e) I.ok.above)
  have neC : ∀ b o, X.s₀.heap.get? b = some o → b ∉ X.ex → b ∉ ch := fun b o e hx hb => by
    rcases (hch b hb).1 with z | z
    · exact hx z
    · exact absurd (Nat.lt_of_lt_of_le (Heap.lt_size e) z) (Nat.lt_irrefl _)
  have cellK : ∀ x c, X.env.cells.lookup x = some c → ∀ v, s.heap.IsCell c v → h'.IsCell c v := fun x c e v ⟨o, ho, hd⟩ => by
    have nch : c ∉ ch := fun z => (hch c z).2.2.1 x c e rfl
    by_cases hc : c ∈ X.fs
    · obtain ⟨sl, q⟩ := slot c o (I.cne x c e) hc nch ho (I.freeC x c e)
      exact ⟨_, q, hd⟩
    · exact ⟨o, keep c o (I.cne x c e) hc nch ho (I.freeC x c e), hd⟩
  refine ⟨I.ok, I.os, hg, ⟨fun b o e n hb hx => ?_, fun b o e n hb hx => ?_, fun b o e n hx => ?_, fun b o e hx => ?_, fun b xs e => tups b xs (I.base.tups b xs e), fun b o xs e => frzs b o xs (I.base.frzs b o xs e), fun b ps e => ?_⟩, ?_, fun x c e => ?_, ?_, fun x c e => ?_, fun p hp => ?_, hok, I.len⟩
  · exact keep b o (neL b o e) hb (neC b o e hx) (I.base.keep b o e n hb hx) (I.base.free b o e n hx)
  · obtain ⟨sl, e1⟩ := I.base.slot b o e n hb hx
    obtain ⟨sl', e2⟩ := slot b _ (neL b o e) hb (neC b o e hx) e1 (I.base.free b o e n hx)
    exact ⟨sl', e2⟩
  · obtain ⟨o', e1⟩ := I.base.there b o e hx
    exact free b o' (neC b o e hx) e1 (I.base.free b o e n hx)
  · obtain ⟨o', e1⟩ := I.base.there b o e hx
    exact there b o' (neC b o e hx) e1
  · obtain ⟨m1, e1⟩ := I.base.tbls b ps e
    obtain ⟨m2, e2⟩ := tbls b _ e1
    exact ⟨m1 ++ m2, by rw [e2, Array.append_assoc]⟩
  · obtain ⟨m, hn, hl⟩ := I.loc
    refine ⟨m, ns m hn, fun i x v e1 e2 e3 => ?_⟩
    obtain ⟨u, r, l⟩ := hl i x v e1 e2 e3
    refine ⟨u, r, ?_⟩
    rcases l with l | ⟨k, c, e, z⟩
    · exact .inl l
    · exact .inr ⟨k, c, e, cellK x c e _ z⟩
  · obtain ⟨v, z⟩ := I.cell x c e
    exact ⟨v, cellK x c e v z⟩
  · obtain ⟨m, ⟨o, _, _, ho, _⟩, _⟩ := I.loc
    exact free _ o (fun z => (hch _ z).2.1 rfl) ho I.free
  · obtain ⟨v, o, ho, hd⟩ := I.cell x c e
    exact free c o (fun z => (hch c z).2.2.1 x c e rfl) ho (I.freeC x c e)
  · obtain ⟨e, n, ne, nf, d⟩ := I.pin p hp
    have nch : p.1 ∉ ch := fun z => (hch p.1 z).2.2.2 p hp rfl
    exact ⟨keep p.1 p.2 ne nf nch e n, free p.1 p.2 nch e n, ne, nf, d⟩
/-- .. where the frame's own object is kept too -/
theorem Inv.un {t' : Nat} (I : Inv X pins σ H s) (u : Un X.fs [] H H' s.heap h') (hok : HOk X.prog X.w H' h') : Inv X pins σ H' { s with heap := h', toks := t' } := by
  obtain ⟨m, ⟨o, es, ep, ho, r⟩, _⟩ := id I.loc
  obtain ⟨sl, hL⟩ := u.any ho I.free (by simp)
  exact I.step (g' := s.gens) (d' := s.drawn) (ch := []) (fun _ z => nomatch z) (fun b o _ hb _ e n => u.keep b o e n hb (by simp)) (fun b o _ hb _ e n => u.slot b o e n hb (by simp)) (fun b o _ e n => u.free b o e n (by simp)) (fun b o _ e => u.there b o e (by simp)) u.tups u.frzs u.tbls (fun m' hm => by
    obtain ⟨o', es', ep', ho', r'⟩ := hm
    rw [ho] at ho'; cases ho'
    exact ⟨_, es', ep', hL, r'⟩) hok I.bare
/-- behind a call (or a comprehension's block): the slots of this frame may have changed too, the records at ch may have turned -/
theorem Inv.call {g' : Array GenState} {t' : Nat} {d' : Drawn} {ch : List Addr} (I : Inv X pins σ H s) (u : Un (frs X.stack) ch H H' s.heap h') (hok : HOk X.prog X.w H' h') (hg : AllBare g')
    (hch : ∀ b ∈ ch, (b ∈ X.ex ∨ X.s₀.heap.objs.size ≤ b) ∧ b ≠ X.env.locals ∧ (∀ x c, X.env.cells.lookup x = some c → c ≠ b) ∧ ∀ p ∈ X.pn ++ pins, p.1 ≠ b) :
    Inv X pins σ H' { s with heap := h', gens := g', drawn := d', toks := t' } := by
  obtain ⟨m, ⟨o, es, ep, ho, r⟩, _⟩ := id I.loc
  obtain ⟨sl, hL⟩ := u.any ho I.free fun z => (hch _ z).2.1 rfl
  exact I.step (ch := ch) hch (fun b o hL hb hc e n => u.keep b o e n (fun z => (List.mem_cons.mp (I.stkSub b z)).elim hL hb) hc) (fun b o _ _ hc e n => u.any e n hc) (fun b o hc e n => u.free b o e n hc) (fun b o hc e => u.there b o e hc) u.tups u.frzs u.tbls (fun m' hm => by
    obtain ⟨o', es', ep', ho', r'⟩ := hm
    rw [ho] at ho'; cases ho'
    exact ⟨_, es', ep', hL, r'⟩) hok hg
/-- an untracked record of ours (an iterator) has turned -/
theorem Inv.turned {t' : Nat} {it : Addr} (I : Inv X pins σ H s) (k : ∀ b o, b ≠ it → s.heap.get? b = some o → h'.get? b = some o) (hn : H it = none) (hL : it ≠ X.env.locals)
    (h1 : it ∈ X.ex ∨ X.s₀.heap.objs.size ≤ it) (h2 : ∀ x c, X.env.cells.lookup x = some c → c ≠ it) (h3 : ∀ p ∈ X.pn ++ pins, p.1 ≠ it) : Inv X pins σ H { s with heap := h', toks := t' } := by
  have nit : ∀ b u, H b = some u → b ≠ it := fun b u e z => by rw [z, hn] at e; cases e
  refine I.step (g' := s.gens) (d' := s.drawn) (ch := [it]) (fun b hb => ?_) (fun b o _ _ hc e _ => k b o (fun z => hc (by simp [z])) e) (fun b o _ _ hc e _ => ⟨o.slots, k b o (fun z => hc (by simp [z])) e⟩) (fun _ _ _ _ n => n)
    (fun b o hc e => ⟨o, k b o (fun z => hc (by simp [z])) e⟩) (fun _ _ e => e) (fun _ _ _ e => e) (fun b ps e => ⟨#[], by rw [e]; simp⟩) (fun m hm => ?_) (fun b u e => ?_) I.bare
  · have e : b = it := by simpa using hb
    subst e
    exact ⟨h1, hL, h2, h3⟩
  · obtain ⟨o, es, ep, ho, r⟩ := hm
    exact ⟨o, es, ep, k _ o (Ne.symm hL) ho, r⟩
  · refine (I.hok b u e).stay (fun c v hc q => k c v ?_ q) (fun _ q => q) fun _ _ q => q
    rcases hc with z | z
    · rw [z]; exact nit b u e
    · exact nit c _ z
theorem Inv.tok (I : Inv X pins σ H s) (t : Nat) : Inv X pins σ H { s with toks := t } := I.un (h' := s.heap) (t' := t) Un.refl I.hok
/-- all objects kept -/
theorem Inv.kept {t' : Nat} (I : Inv X pins σ H s) (k : ∀ b u, s.heap.get? b = some u → h'.get? b = some u) : Inv X pins σ H { s with heap := h', toks := t' } := I.un (Un.kept k) (I.hok.kept k)
/-- a new object laid and tracked -/
theorem Inv.laid {a : Addr} {o : HO} {t' : Nat} (I : Inv X pins σ H s) (k : ∀ b u, s.heap.get? b = some u → h'.get? b = some u) (hp : s.heap.objs.size ≤ a) (new : ObjOk X.prog X.w (upd H a o) h' a o) :
    Inv X pins σ (upd H a o) { s with heap := h', toks := t' } := I.un (Un.laid k hp (I.hok.fresh hp)) (I.hok.laid k hp new)
/-- an object written -/
theorem Inv.write {x e : Addr} {o : HO} {t' : Nat} (I : Inv X pins σ H s) (mu : Mut (H x)) (he : e = x ∨ H e = some (.own x)) (k : ∀ b u, b ≠ e → s.heap.get? b = some u → h'.get? b = some u) (heo : ∃ u, h'.get? e = some u)
    (new : ObjOk X.prog X.w (upd H x o) h' x o) : Inv X pins σ (upd H x o) { s with heap := h', toks := t' } := I.un (Un.write mu he k heo) (I.hok.write mu he k heo new)
theorem Inv.pins_of {pins' : List (Addr × Obj)} (I : Inv X pins σ H s) (h : ∀ p ∈ pins', s.heap.get? p.1 = some p.2 ∧ H p.1 = none ∧ p.1 ≠ X.env.locals ∧ p.1 ∉ X.fs ∧ ∀ v, p.2.data ≠ .cell v) : Inv X pins' σ H s :=
  ⟨I.ok, I.os, I.bare, I.base, I.loc, I.cell, I.free, I.freeC, fun p hp => (List.mem_append.mp hp).elim (fun z => I.pin p (List.mem_append_left _ z)) (h p), I.hok, I.len⟩

theorem nodup_ix {N : List Str} (hN : N.Nodup) {i j : Nat} {x : Str} (a : N[i]? = some x) (b : N[j]? = some x) : i = j := by
  obtain ⟨h1, e1⟩ := List.getElem?_eq_some_iff.mp a
  obtain ⟨h2, e2⟩ := List.getElem?_eq_some_iff.mp b
  exact (List.getElem_inj hN).mp (e1.trans e2.symm)

/-- a name is stored; what changed -/
theorem store_ok2 {M : Model} {A : Around} {E : Value → Shared → Prop} {i : Nat} {x : Str} {v : V} {u : Value} {Q : Unit → Shared → Prop} (I : Inv X pins σ H s) (hN : X.N.Nodup) (hi : X.N[i]? = some x) (hx : Loc X.env.scope x) (r : RelV v u)
    (h : ∀ s', Inv X pins (σ.set i (some v)) H s' → (∃ a, Heap.SameBut a s.heap s'.heap ∧ (a = X.env.locals ∨ X.env.cells.lookup x = some a)) → Q () s') (hf : X.fn x = true ∨ X.env.scope.names.lookup x = some .local := by first | exact .inl rfl | exact .inr rfl | assumption) : wpAny M A (storeName X.env x u) Q E s := by
  obtain ⟨m, hn, hl⟩ := id I.loc
  have hcls : (X.env.scope.kind == .class || (X.env.scope.kind == .module && X.env.locals != X.env.globals)) = false := by rw [I.ok.kind]; rfl
  have hiσ : i < σ.length := by rw [I.len]; exact (List.getElem?_eq_some_iff.mp hi).1
  have cne := I.cne
  have tracked : ∀ {a : Addr} {h' : Heap}, (∃ o, s.heap.get? a = some o ∧ H a = none) → Heap.SameBut a s.heap h' → HOk X.prog X.w H h' := fun {a h'} ha hs b ob e => by
    obtain ⟨_, _, hfree⟩ := ha
    refine (I.hok b ob e).stay (fun c w' hc q => (hs.2 c ?_).trans q) (fun _ q => q) fun _ _ q => q
    rintro rfl
    rcases hc with rfl | hc
    · rw [hfree] at e; cases e
    · rw [hfree] at hc; cases hc
  rcases hx with hk | hk
  · refine wpAny_storeName_local hk hn (fun h' hn' hs => ?_) hcls
    obtain ⟨oL, _, _, hoL, _⟩ := id hn
    refine h _ ⟨I.ok, I.os, I.bare, ⟨fun b o e n hb hx => ?_, fun b o e n hb hx => ?_, I.base.free, fun b o e hx => ?_, I.base.tups, I.base.frzs, I.base.tbls⟩, ⟨_, hn', fun j y v' e1 e2 e3 => ?_⟩, fun y c e => ?_, I.free, I.freeC, fun p hp => ?_, tracked ⟨oL, hoL, I.free⟩ hs, by simpa using I.len⟩ ⟨_, hs, .inl rfl⟩
    · exact (hs.2 b (Nat.ne_of_lt (Nat.lt_of_lt_of_le (Heap.lt_size e) I.ok.above))).trans (I.base.keep b o e n hb hx)
    · obtain ⟨sl, e1⟩ := I.base.slot b o e n hb hx
      exact ⟨sl, (hs.2 b (Nat.ne_of_lt (Nat.lt_of_lt_of_le (Heap.lt_size e) I.ok.above))).trans e1⟩
    · obtain ⟨o', e1⟩ := I.base.there b o e hx
      exact ⟨o', (hs.2 b (Nat.ne_of_lt (Nat.lt_of_lt_of_le (Heap.lt_size e) I.ok.above))).trans e1⟩
    · by_cases hj : j = i
      · subst hj
        rw [hi] at e1; cases e1
        rw [List.getElem?_set_self hiσ] at e2
        cases e2
        exact ⟨u, r, .inl ⟨hk, by simp⟩⟩
      · rw [List.getElem?_set_ne (Ne.symm hj)] at e2
        obtain ⟨u', r', q⟩ := hl j y v' e1 e2 e3
        refine ⟨u', r', ?_⟩
        rcases q with ⟨k, e⟩ | ⟨k, c, e, z⟩
        · refine .inl ⟨k, ?_⟩
          have : y ≠ x := fun e => hj (nodup_ix hN e1 (e ▸ hi))
          simp [this, e]
        · exact .inr ⟨k, c, e, z.sameBut hs (cne y c e)⟩
    · obtain ⟨w', z⟩ := I.cell y c e
      exact ⟨w', z.sameBut hs (cne y c e)⟩
    · obtain ⟨e, n, ne, nf, d⟩ := I.pin p hp
      exact ⟨(hs.2 p.1 ne).trans e, n, ne, nf, d⟩
  · have hfn : X.fn x = true := by
      rcases hf with z | z
      · exact z
      · rw [z] at hk; cases hk
    obtain ⟨c, hc⟩ := I.ok.has x (.inl hk)
    obtain ⟨w', z⟩ := I.cell x c hc
    refine wpAny_storeName_cell I.ok.kind hk hc z (fun h' hc' hs => ?_)
    obtain ⟨oc, hoc, hocd⟩ := id z
    refine h { s with heap := h' } ⟨I.ok, I.os, I.bare, ⟨fun b o e n hb hx => ?_, fun b o e n hb hx => ?_, I.base.free, fun b o e hx => ?_, I.base.tups, I.base.frzs, I.base.tbls⟩, ⟨m, hn.sameBut hs (Ne.symm (cne x c hc)), fun j y v' e1 e2 e3 => ?_⟩, fun y c' e => ?_, I.free, I.freeC, fun p hp => ?_, tracked ⟨oc, hoc, I.freeC x c hc⟩ hs, by simpa using I.len⟩ ⟨c, hs, .inr hc⟩
    · exact (hs.2 b (Nat.ne_of_lt (Nat.lt_of_lt_of_le (Heap.lt_size e) (I.ok.cab x c hfn hc)))).trans (I.base.keep b o e n hb hx)
    · obtain ⟨sl, e1⟩ := I.base.slot b o e n hb hx
      exact ⟨sl, (hs.2 b (Nat.ne_of_lt (Nat.lt_of_lt_of_le (Heap.lt_size e) (I.ok.cab x c hfn hc)))).trans e1⟩
    · obtain ⟨o', e1⟩ := I.base.there b o e hx
      exact ⟨o', (hs.2 b (Nat.ne_of_lt (Nat.lt_of_lt_of_le (Heap.lt_size e) (I.ok.cab x c hfn hc)))).trans e1⟩
    · by_cases hj : j = i
      · subst hj
        rw [hi] at e1; cases e1
        rw [List.getElem?_set_self hiσ] at e2
        cases e2
        exact ⟨u, r, .inr ⟨.inl hk, c, hc, hc'⟩⟩
      · rw [List.getElem?_set_ne (Ne.symm hj)] at e2
        obtain ⟨u', r', q⟩ := hl j y v' e1 e2 e3
        refine ⟨u', r', ?_⟩
        rcases q with q | ⟨k, c', e, z'⟩
        · exact .inl q
        · refine .inr ⟨k, c', e, z'.sameBut hs ?_⟩
          rintro rfl
          exact hj (nodup_ix hN e1 (I.ok.inj _ _ _ e hc ▸ hi))
    · by_cases hcc : c' = c
      · subst hcc; exact ⟨_, hc'⟩
      · obtain ⟨w2, z2⟩ := I.cell y c' e
        exact ⟨w2, z2.sameBut hs hcc⟩
    · obtain ⟨e, n, ne, nf, d⟩ := I.pin p hp
      refine ⟨(hs.2 p.1 ?_).trans e, n, ne, nf, d⟩
      intro q
      rw [q, hoc] at e
      have q' : oc = p.2 := Option.some.inj e
      exact d w' (by rw [← q']; exact hocd)
theorem store_ok {M : Model} {A : Around} {E : Value → Shared → Prop} {i : Nat} {x : Str} {v : V} {u : Value} {Q : Unit → Shared → Prop} (I : Inv X pins σ H s) (hN : X.N.Nodup) (hi : X.N[i]? = some x) (hx : Loc X.env.scope x) (r : RelV v u)
    (h : ∀ s', Inv X pins (σ.set i (some v)) H s' → Q () s') (hf : X.fn x = true ∨ X.env.scope.names.lookup x = some .local := by first | exact .inl rfl | exact .inr rfl | assumption) : wpAny M A (storeName X.env x u) Q E s :=
  store_ok2 I hN hi hx r (fun s' I' _ => h s' I') hf
/-- behind a call or a block, the state as it is -/
theorem Inv.call' {s' : Shared} {ch : List Addr} (I : Inv X pins σ H s) (ho : s'.os = s.os) (u : Un (frs X.stack) ch H H' s.heap s'.heap) (hok : HOk X.prog X.w H' s'.heap) (hg : AllBare s'.gens)
    (hch : ∀ b ∈ ch, (b ∈ X.ex ∨ X.s₀.heap.objs.size ≤ b) ∧ b ≠ X.env.locals ∧ (∀ x c, X.env.cells.lookup x = some c → c ≠ b) ∧ ∀ p ∈ X.pn ++ pins, p.1 ≠ b) : Inv X pins σ H' s' := by
  obtain ⟨h', g', d', t', o'⟩ := s'
  have e : o' = s.os := ho
  subst e
  exact I.call (g' := g') (t' := t') (d' := d') u hok hg hch
end

/-! ### the judgements -/
/-- an exception: its class, its own dict's address (where it has one), the abstract heap behind it -/
abbrev XK := Value → Option Addr → Hp → Prop
abbrev St := List (Option V)
abbrev VK := V → Hp → Prop
/-- an expression's reading; a test's; an argument list's -/
abbrev TE := St → Hp → VK → Prop
abbrev TT := St → Hp → (Bool → Hp → Prop) → Prop
abbrev TA := St → Hp → (List V → Hp → Prop) → Prop
/-- what is wanted behind a statement -/
structure Ends where
  nx : St → Hp → Prop
  rt : VK
  bk : St → Hp → Prop := fun _ _ => False
  ct : St → Hp → Prop := fun _ _ => False
abbrev TS := Ends → St → Hp → Prop

def EP (X : Cx) (pins : List (Addr × Obj)) (σ : St) (Q : VK) (u : Value) (s' : Shared) : Prop := ∃ v H', Inv X pins σ H' s' ∧ RelV v u ∧ Q v H'
def TP (X : Cx) (pins : List (Addr × Obj)) (σ : St) (Q : Bool → Hp → Prop) (b : Bool) (s' : Shared) : Prop := ∃ H', Inv X pins σ H' s' ∧ Q b H'
def AP (X : Cx) (pins : List (Addr × Obj)) (σ : St) (Q : List V → Hp → Prop) (us : List Value) (s' : Shared) : Prop := ∃ vs H', Inv X pins σ H' s' ∧ Vals vs us ∧ Q vs H'
def SP (X : Cx) (pins : List (Addr × Obj)) (D : Ends) (f : Flow) (s' : Shared) : Prop :=
  match f with
  | .next => ∃ σ' H', Inv X pins σ' H' s' ∧ D.nx σ' H'
  | .brk => ∃ σ' H', Inv X pins σ' H' s' ∧ D.bk σ' H'
  | .cont => ∃ σ' H', Inv X pins σ' H' s' ∧ D.ct σ' H'
  | .ret u => ∃ v σ' H', Inv X pins σ' H' s' ∧ RelV v u ∧ D.rt v H'

def PE (X : Cx) (e : Expr) (t : TE) : Prop :=
  ∀ (pins : List (Addr × Obj)) (s : Shared) (σ : St) (H : Hp) (Q : VK), Inv X pins σ H s → t σ H Q → wpAny (model X.prog X.w) X.A (eval e X.env) (EP X pins σ Q) X.xe s
def PT (X : Cx) (e : Expr) (t : TT) : Prop :=
  ∀ (pins : List (Addr × Obj)) (s : Shared) (σ : St) (H : Hp) (Q : Bool → Hp → Prop), Inv X pins σ H s → t σ H Q → wpAny (model X.prog X.w) X.A (isTrue e X.env (eval e X.env)) (TP X pins σ Q) X.xe s
/-- a test whatever its 'whole' is (and, or) -/
def PW (X : Cx) (e : Expr) (t : TT) : Prop :=
  ∀ (whole : Sem Value) (pins : List (Addr × Obj)) (s : Shared) (σ : St) (H : Hp) (Q : Bool → Hp → Prop), Inv X pins σ H s → t σ H Q → wpAny (model X.prog X.w) X.A (isTrue e X.env whole) (TP X pins σ Q) X.xe s
theorem PW.pt {X : Cx} {e : Expr} {t : TT} (h : PW X e t) : PT X e t := h _
/-- an argument list (no star), from the left -/
def PA (X : Cx) (es : List Expr) (t : TA) : Prop :=
  ∀ (pos : Pos) (pins : List (Addr × Obj)) (s : Shared) (σ : St) (H : Hp) (Q : List V → Hp → Prop), Inv X pins σ H s → t σ H Q → wpAny (model X.prog X.w) X.A (spliced (backTo pos (starEach es X.env))) (AP X pins σ Q) X.xe s
def PS (X : Cx) (st : Stmt) (t : TS) : Prop :=
  ∀ (pins : List (Addr × Obj)) (s : Shared) (σ : St) (H : Hp) (D : Ends), Inv X pins σ H s → t D σ H → wpAny (model X.prog X.w) X.A (exec st X.env) (SP X pins D) X.xe s
def PSs (X : Cx) (st : List Stmt) (t : TS) : Prop :=
  ∀ (pins : List (Addr × Obj)) (s : Shared) (σ : St) (H : Hp) (D : Ends), Inv X pins σ H s → t D σ H → wpAny (model X.prog X.w) X.A (execs st X.env) (SP X pins D) X.xe s
/-- weaken the end -/
theorem thn {α : Type} {t : Sem α} {Q Q' : α → Shared → Prop} {M : Model} {A : Around} {E : Value → Shared → Prop} {s : Shared} (h : wpAny M A t Q E s) (hQ : ∀ a s, Q a s → Q' a s) : wpAny M A t Q' E s := wpAny_mono h hQ fun _ _ x => x
end L2

namespace L2
open PySem PySem.Spec PyProof.Rows
section
variable {X : Cx}

/-- two expressions in a row -/
theorem bin {a b : Expr} {ta tb : TE} (ha : PE X a ta) (hb : PE X b tb) {pins : List (Addr × Obj)} {s : Shared} {σ : St} {H : Hp} {R : V → V → Hp → Prop} (I : Inv X pins σ H s) (h : ta σ H fun x H1 => tb σ H1 fun y H2 => R x y H2)
    {α : Type} {Q : α → Shared → Prop} {f : Value → Value → Sem α}
    (hf : ∀ v u s2 x y H2, Inv X pins σ H2 s2 → RelV x v → RelV y u → R x y H2 → wpAny (model X.prog X.w) X.A (f v u) Q X.xe s2) :
    wpAny (model X.prog X.w) X.A (eval a X.env) (fun v s₁ => wpAny (model X.prog X.w) X.A (eval b X.env) (fun u s₂ => wpAny (model X.prog X.w) X.A (f v u) Q X.xe s₂) X.xe s₁) X.xe s := by
  refine thn (ha pins s σ H _ I h) fun v s1 ⟨x, H1, I1, r1, q1⟩ => ?_
  refine thn (hb pins s1 σ H1 _ I1 q1) fun u s2 ⟨y, H2, I2, r2, q2⟩ => ?_
  exact hf v u s2 x y H2 I2 r1 r2 q2

/-! ### names and constants -/
def tVar (i : Nat) : TE := fun σ H Q => ∃ v, σ[i]? = some (some v) ∧ Q v H
def tC (v : V) : TE := fun _ H Q => Q v H
theorem pe_var {i : Nat} {x : Str} {pos : Pos} (hN : X.N[i]? = some x) (hv : Vis X.env.scope x) (hd : (x == ("__debug__" : Str)) = false := by decide) (hcd : (x == ("__classdict__" : Str)) = false := by decide) : PE X (.Name x pos) (tVar i) := by
  intro pins s σ H Q I h
  obtain ⟨v, e, h⟩ := h
  obtain ⟨m, hn, hl⟩ := I.loc
  obtain ⟨u, r, l⟩ := hl i x v hN e hv
  have fin : EP X pins σ Q u s := ⟨v, H, I, r, h⟩
  rcases l with ⟨hk, hm⟩ | ⟨hk, c, hc, hcell⟩
  · exact wpAny_Name (wpAny_loadName_local I.ok.kind hk hn hm fin) hd
  · rcases hk with hk | hk
    · exact wpAny_Name (wpAny_loadName_cell I.ok.kind hk hc hcell fin) hd
    · exact wpAny_Name (wpAny_loadName_free I.ok.kind hk hc hcell fin hcd) hd
theorem pe_int {i j pos} : PE X (.Constant (.int i) j pos) (tC (.int i)) := fun _ _ _ H _ I h => wpAny_Constant_int ⟨.int i, H, I.tok _, ⟨_, rfl⟩, h⟩
theorem pe_bl {b j pos} : PE X (.Constant (.bool b) j pos) (tC (.bl b)) := fun _ _ _ H _ I h => Constant_bool ⟨.bl b, H, I, rfl, h⟩
theorem pe_non {j pos} : PE X (.Constant .none j pos) (tC .non) := fun _ _ _ H _ I h => Constant_none ⟨.non, H, I, rfl, h⟩
theorem pe_str {x j pos} : PE X (.Constant (.str x) j pos) (tC (.str x)) := fun _ _ _ H _ I h => Calls.Constant_str ⟨.str x, H, I.tok _, ⟨_, rfl⟩, h⟩

/-- a global name of the def -/
def Gl (X : Cx) (x : Str) : Prop := X.env.kindOf x = some .globalImplicit
theorem ld_glob {E : Value → Shared → Prop} {pins : List (Addr × Obj)} {s : Shared} {σ : St} {H : Hp} {x : Str} {u : Value} {pos : Pos} {Q : Value → Shared → Prop} (I : Inv X pins σ H s) (hg : Gl X x) (hm : X.mg x = some u) (h : Q u s)
    (hd : (x == ("__debug__" : Str)) = false := by decide) : wpAny (model X.prog X.w) X.A (eval (.Name x pos) X.env) Q E s :=
  Calls.Name_function_global I.ok.kind hg (Calls.loadGlobal_global (by rw [I.ok.glob]; exact I.mod.glob.keeps I.bk) hm h) hd
theorem ld_blt {E : Value → Shared → Prop} {pins : List (Addr × Obj)} {s : Shared} {σ : St} {H : Hp} {x : Str} {u : Value} {pos : Pos} {Q : Value → Shared → Prop} (I : Inv X pins σ H s) (hg : Gl X x) (hm : X.mg x = none) (hv : bootBuiltins x = some u) (h : Q u s)
    (hn : x ≠ "__name__" := by decide) (hd : (x == ("__debug__" : Str)) = false := by decide) : wpAny (model X.prog X.w) X.A (eval (.Name x pos) X.env) Q E s := by
  obtain ⟨mb, h1, h2⟩ := I.mod.blt
  exact Calls.Name_function_global I.ok.kind hg (Calls.loadGlobal_builtin (by rw [I.ok.glob]; exact I.mod.glob.keeps I.bk) hm (by rw [I.ok.blt]; exact h1.keeps I.bk) ((h2 x hn).trans hv) h) hd
/-- a module's constant, a class, a function, as a value -/
theorem pe_glob {x : Str} {v : V} {u : Value} {pos : Pos} (hg : Gl X x) (hm : X.mg x = some u) (r : RelV v u) (hd : (x == ("__debug__" : Str)) = false := by decide) : PE X (.Name x pos) (tC v) :=
  fun _ _ _ H _ I h => ld_glob I hg hm ⟨v, H, I, r, h⟩ hd
theorem pe_bltn {x : Str} {v : V} {u : Value} {pos : Pos} (hg : Gl X x) (hm : X.mg x = none) (hv : bootBuiltins x = some u) (r : RelV v u) (hn : x ≠ "__name__" := by decide) (hd : (x == ("__debug__" : Str)) = false := by decide) : PE X (.Name x pos) (tC v) :=
  fun _ _ _ H _ I h => ld_blt I hg hm hv ⟨v, H, I, r, h⟩ hn hd

/-! ### arithmetic -/
variable {a b : Expr} {ta tb : TE} {pos : Pos}
/-! ### comparisons -/
def PC (X : Cx) (op : CmpOp) (a b : Expr) (t : TE) : Prop :=
  ∀ (pins : List (Addr × Obj)) (s : Shared) (σ : St) (H : Hp) (Q : VK), Inv X pins σ H s → t σ H Q →
    wpAny (model X.prog X.w) X.A (eval a X.env) (fun v s₁ => wpAny (model X.prog X.w) X.A (eval b X.env) (fun u s₂ => wpAny (model X.prog X.w) X.A (compareOp op v u) (EP X pins σ Q) X.xe s₂) X.xe s₁) X.xe s
theorem nobehind (b : Expr) {op : CmpOp} (h : op ≠ .In) (h2 : op ≠ .NotIn) : behindInMarks op b = false := by
  have e1 : (op == CmpOp.In) = false := by cases op <;> first | rfl | exact absurd rfl h
  have e2 : (op == CmpOp.NotIn) = false := by cases op <;> first | rfl | exact absurd rfl h2
  cases b <;> simp [behindInMarks, e1, e2]
/-- is None -/
def tIsN (ta : TE) : TE := fun σ H Q => ta σ H fun x H1 => Q (.bl (decide (x = .non))) H1
def tNotN (ta : TE) : TE := fun σ H Q => ta σ H fun x H1 => Q (.bl (!decide (x = .non))) H1
theorem RelV.none_iff {x : V} {v : Value} (r : RelV x v) : (v == Value.none) = decide (x = .non) := by
  cases x with
  | non => cases r; rfl
  | bl _ => cases r; rfl
  | int _ => obtain ⟨t, rfl⟩ := r; rfl
  | str _ => obtain ⟨t, rfl⟩ := r; rfl
  | byt _ => obtain ⟨t, rfl⟩ := r; rfl
  | flt _ => obtain ⟨t, rfl⟩ := r; rfl
  | ref _ => cases r; rfl
  | ty _ => cases r; rfl
theorem pc_isN {j pos'} (ha : PE X a ta) : PC X .Is a (.Constant .none j pos') (tIsN ta) := by
  intro pins s σ H Q I h
  refine thn (ha pins s σ H _ I h) fun v s1 ⟨x, H1, I1, r1, q1⟩ => ?_
  exact Constant_none (is_none_gen ⟨.bl _, H1, I1, by rw [r1.none_iff]; rfl, q1⟩)
theorem pc_notN {j pos'} (ha : PE X a ta) : PC X .IsNot a (.Constant .none j pos') (tNotN ta) := by
  intro pins s σ H Q I h
  refine thn (ha pins s σ H _ I h) fun v s1 ⟨x, H1, I1, r1, q1⟩ => ?_
  exact Constant_none (isnot_none_gen ⟨.bl _, H1, I1, by rw [r1.none_iff]; rfl, q1⟩)
/-- a comparison as a value, as a test -/
def tB (t : TE) : TT := fun σ H Q => t σ H fun x H1 => ∃ c, x = .bl c ∧ Q c H1
theorem pt_cmp {op : CmpOp} {t : TE} (h : PC X op a b t) (h1 : behindInMarks op b = false := by first | exact nobehind _ (by decide) (by decide) | rfl) : PT X (.Compare a [op] [b] pos) (tB t) := by
  intro pins s σ H Q I hw
  refine wpAny_isTrue_Compare1 (thn (h pins s σ H _ I hw) fun v s1 h1 => thn h1 fun u s2 h2 => thn h2 fun c s3 ⟨x, H1, I1, r1, q1⟩ => ?_) h1
  obtain ⟨d, rfl, q⟩ := q1
  cases r1
  exact wpAny_truthy_bool ⟨H1, I1, q⟩
/-- an expression whose value is a bool, as a test -/
theorem pt_val {e : Expr} {t : TE} (h : PE X e t) (he : ∀ whole, isTrue e X.env whole = (do let v ← whole; standAt e.pos; holding [v] (truthy v)) := by intro _; rfl) : PT X e (tB t) := by
  intro pins s σ H Q I hw
  refine isTrue_plain (thn (h pins s σ H _ I hw) fun v s1 ⟨x, H1, I1, r1, q1⟩ => ?_) (he _)
  obtain ⟨d, rfl, q⟩ := q1
  cases r1
  exact wpAny_truthy_bool ⟨H1, I1, q⟩

/-! ### and, or, not -/
variable {tA tB' : TT} {rest : List Expr}
def tAnd (t u : TT) : TT := fun σ H Q => t σ H fun c H1 => if c = true then u σ H1 Q else Q false H1
def tOr (t u : TT) : TT := fun σ H Q => t σ H fun c H1 => if c = true then Q true H1 else u σ H1 Q
def tNot (t : TT) : TT := fun σ H Q => t σ H fun c H1 => Q (!c) H1
theorem pw_and1 (ha : PT X a tA) : PW X (.BoolOp .And [a] pos) tA := by
  intro wh pins s σ H Q I h
  refine isTrue_and (thn (ha pins s σ H Q I h) fun c s1 e => ?_)
  cases c with
  | true => exact isTrue_and_nil e
  | false => exact e
theorem pw_or1 (ha : PT X a tA) : PW X (.BoolOp .Or [a] pos) tA := by
  intro wh pins s σ H Q I h
  refine isTrue_or (thn (ha pins s σ H Q I h) fun c s1 e => ?_)
  cases c with
  | false => exact isTrue_or_nil e
  | true => exact e
theorem pw_and (ha : PT X a tA) (hb : PW X (.BoolOp .And (b :: rest) pos) tB') : PW X (.BoolOp .And (a :: b :: rest) pos) (tAnd tA tB') := by
  intro wh pins s σ H Q I h
  refine isTrue_and (thn (ha pins s σ H _ I h) fun c s1 ⟨H1, I1, q1⟩ => ?_)
  cases c with
  | true => exact hb wh pins s1 σ H1 Q I1 q1
  | false => exact ⟨H1, I1, q1⟩
theorem pw_or (ha : PT X a tA) (hb : PW X (.BoolOp .Or (b :: rest) pos) tB') : PW X (.BoolOp .Or (a :: b :: rest) pos) (tOr tA tB') := by
  intro wh pins s σ H Q I h
  refine isTrue_or (thn (ha pins s σ H _ I h) fun c s1 ⟨H1, I1, q1⟩ => ?_)
  cases c with
  | true => exact ⟨H1, I1, q1⟩
  | false => exact hb wh pins s1 σ H1 Q I1 q1
theorem pt_not (ha : PT X a tA) : PT X (.UnaryOp .Not a pos) (tNot tA) := by
  intro pins s σ H Q I h
  exact isTrue_not (ha pins s σ H (fun c H1 => Q (!c) H1) I h)
/-- .. as values (bools) -/
def tAndV (ta tb : TE) : TE := fun σ H Q => ta σ H fun x H1 => ∃ c, x = .bl c ∧ if c = true then tb σ H1 Q else Q (.bl false) H1
def tNotV (ta : TE) : TE := fun σ H Q => ta σ H fun x H1 => ∃ c, x = .bl c ∧ Q (.bl (!c)) H1
theorem pe_one {op} {t : TE} (h : PE X a t) : PE X (.BoolOp op [a] pos) t := fun pins s σ H Q I hw => BoolOp_one (h pins s σ H Q I hw)
theorem pe_and (ha : PE X a ta) (hb : PE X (.BoolOp .And (b :: rest) pos) tb) : PE X (.BoolOp .And (a :: b :: rest) pos) (tAndV ta tb) := by
  intro pins s σ H Q I h
  refine BoolOp_and (thn (ha pins s σ H _ I h) fun v s1 ⟨x, H1, I1, r1, q1⟩ => ?_)
  obtain ⟨c, rfl, q1⟩ := q1
  cases r1
  refine wpAny_truthy_bool ?_
  cases c with
  | true => exact hb pins s1 σ H1 Q I1 q1
  | false => exact ⟨.bl false, H1, I1, rfl, q1⟩
theorem pe_not (ha : PE X a ta) : PE X (.UnaryOp .Not a pos) (tNotV ta) := by
  intro pins s σ H Q I h
  refine UnaryOp_ (thn (ha pins s σ H _ I h) fun v s1 ⟨x, H1, I1, r1, q1⟩ => ?_)
  obtain ⟨c, rfl, q1⟩ := q1
  cases r1
  exact not_of (wpAny_truthy_bool ⟨.bl (!c), H1, I1, rfl, q1⟩)
end
end L2

namespace L2
open PySem PySem.Spec PyProof.Rows

/-! ### a list, a tuple that is read: tracked, frozen, or an object of the module -/
def SqL (K : PySem.W.Frag) (H : Hp) (a : Addr) (xs : List V) : Prop :=
  Rd H a (.lst xs) ∨
    ∃ (o : Obj) (its : Array Value) (n : Nat), K.lookup a = some o ∧ o.cls = .type "list" ∧ o.dict = none ∧ o.data = .seq its n ∧ its.size ≤ sizeLine ∧ Vals xs its.toList
def SqT (K : PySem.W.Frag) (H : Hp) (a : Addr) (xs : List V) : Prop :=
  Rd H a (.tup xs) ∨
    ∃ (o : Obj) (its : Array Value) (n : Nat), K.lookup a = some o ∧ o.cls = .type "tuple" ∧ o.data = .seq its n ∧ its.size ≤ sizeLine ∧ Vals xs its.toList
def absV : Value → Option V
  | .none => some .non
  | .bool b => some (.bl b)
  | .int i _ => some (.int i)
  | .str x _ => some (.str x)
  | .bytes b _ => some (.byt b)
  | .float b _ => some (.flt b)
  | .ref a => some (.ref a)
  | .type n => some (.ty n)
  | _ => none
theorem RelV.abs {x : V} {u : Value} (r : RelV x u) : absV u = some x := by
  cases x with
  | non => cases r; rfl
  | bl _ => cases r; rfl
  | int _ => obtain ⟨t, rfl⟩ := r; rfl
  | str _ => obtain ⟨t, rfl⟩ := r; rfl
  | byt _ => obtain ⟨t, rfl⟩ := r; rfl
  | flt _ => obtain ⟨t, rfl⟩ := r; rfl
  | ref _ => cases r; rfl
  | ty _ => cases r; rfl
theorem RelV.inj {x y : V} {u : Value} (r : RelV x u) (q : RelV y u) : x = y := Option.some.inj (r.abs.symm.trans q.abs)
theorem Vals.inj : ∀ {xs ys : List V} {us : List Value}, Vals xs us → Vals ys us → xs = ys
  | _, _, _, .nil, .nil => rfl
  | _, _, _, .cons r t, .cons r' t' => by rw [r.inj r', Vals.inj t t']
section
variable {X : Cx} {pins : List (Addr × Obj)} {σ : St} {H : Hp} {s : Shared} {a : Addr} {xs ys : List V}
theorem SqL.of {K : PySem.W.Frag} (h : H a = some (.lst xs)) : SqL K H a xs := .inl (.inl h)
theorem SqT.of {K : PySem.W.Frag} (h : H a = some (.tup xs)) : SqT K H a xs := .inl (.inl h)
theorem Inv.list (I : Inv X pins σ H s) (h : SqL X.K H a xs) : ∃ its : List Value, Vals xs its ∧ PlainL s.heap a its.toArray ∧ xs.length ≤ sizeLine := by
  rcases h with h | ⟨o, its, n, hk, hc, hd, hs, hz, r⟩
  · obtain ⟨z, its, n, r, e⟩ := h.ok I.hok
    exact ⟨its, r, ⟨_, n, e, rfl, rfl, rfl⟩, z⟩
  · refine ⟨its.toList, r, ⟨o, n, I.kIn a o hk, hc, hd, by simpa using hs⟩, ?_⟩
    have e := r.length
    simp only [Array.length_toList] at e
    omega
theorem Inv.tuple (I : Inv X pins σ H s) (h : SqT X.K H a xs) : ∃ its : List Value, Vals xs its ∧ IsTup s.heap a its.toArray ∧ xs.length ≤ sizeLine := by
  rcases h with h | ⟨o, its, n, hk, hc, hs, hz, r⟩
  · obtain ⟨z, its, r, p⟩ := h.ok I.hok
    exact ⟨its, r, p, z⟩
  · refine ⟨its.toList, r, ⟨o, I.kIn a o hk, hc, n, by simpa using hs⟩, ?_⟩
    have e := r.length
    simp only [Array.length_toList] at e
    omega
theorem Inv.list_inj (I : Inv X pins σ H s) (h : SqL X.K H a xs) (h' : SqL X.K H a ys) : xs = ys := by
  obtain ⟨its, r, ⟨o, n, e, _, _, d⟩, _⟩ := I.list h
  obtain ⟨its', r', ⟨o', n', e', _, _, d'⟩, _⟩ := I.list h'
  rw [e] at e'; cases e'
  rw [d] at d'
  injection d' with d1 _
  have : its = its' := by simpa using congrArg Array.toList d1
  subst this
  exact r.inj r'
theorem Inv.tuple_inj (I : Inv X pins σ H s) (h : SqT X.K H a xs) (h' : SqT X.K H a ys) : xs = ys := by
  obtain ⟨its, r, ⟨o, e, _, n, d⟩, _⟩ := I.tuple h
  obtain ⟨its', r', ⟨o', e', _, n', d'⟩, _⟩ := I.tuple h'
  rw [e] at e'; cases e'
  rw [d] at d'
  injection d' with d1 _
  have : its = its' := by simpa using congrArg Array.toList d1
  subst this
  exact r.inj r'
end

/-! ### another wish about exceptions -/
abbrev Cx.wish (X : Cx) (E : Value → Shared → Prop) : Cx := { X with xe := E }
/-- no exception leaves -/
abbrev Cx.nox (X : Cx) : Cx := X.wish fun _ _ => False
theorem Cx.Ok.wish {X : Cx} (ok : X.Ok) (E : Value → Shared → Prop) : (X.wish E).Ok :=
  ⟨ok.mod, ok.kind, ok.glob, ok.blt, ok.above, ok.inj, ok.has, ok.cab, ok.hd, ok.frames, ok.stk, ok.exf, ok.bs, ok.bsz, ok.noex, ok.exfs, ok.funs, ok.frf⟩
theorem Cx.Ok.unwish {X : Cx} {E : Value → Shared → Prop} (ok : (X.wish E).Ok) : X.Ok :=
  ⟨ok.mod, ok.kind, ok.glob, ok.blt, ok.above, ok.inj, ok.has, ok.cab, ok.hd, ok.frames, ok.stk, ok.exf, ok.bs, ok.bsz, ok.noex, ok.exfs, ok.funs, ok.frf⟩
section
variable {X : Cx} {pins : List (Addr × Obj)} {σ : St} {H : Hp} {s : Shared} {E : Value → Shared → Prop}
theorem Inv.wish (I : Inv X pins σ H s) (E : Value → Shared → Prop) : Inv (X.wish E) pins σ H s := ⟨I.ok.wish E, I.os, I.bare, I.base, I.loc, I.cell, I.free, I.freeC, I.pin, I.hok, I.len⟩
theorem Inv.unwish (I : Inv (X.wish E) pins σ H s) : Inv X pins σ H s := ⟨I.ok.unwish, I.os, I.bare, I.base, I.loc, I.cell, I.free, I.freeC, I.pin, I.hok, I.len⟩
theorem SP.unwish {D : Ends} {f : Flow} {s' : Shared} (h : SP (X.wish E) pins D f s') : SP X pins D f s' := by
  cases f with
  | next => obtain ⟨σ', H', I, q⟩ := h; exact ⟨σ', H', I.unwish, q⟩
  | brk => obtain ⟨σ', H', I, q⟩ := h; exact ⟨σ', H', I.unwish, q⟩
  | cont => obtain ⟨σ', H', I, q⟩ := h; exact ⟨σ', H', I.unwish, q⟩
  | ret u => obtain ⟨v, σ', H', I, r, q⟩ := h; exact ⟨v, σ', H', I.unwish, r, q⟩
theorem PSs.nox {st : List Stmt} {t : TS} (h : PSs X.nox st t) : PSs X st t := fun pins s σ H D I hw =>
  wpAny_mono (h pins s σ H D (I.wish _) hw) (fun _ _ q => q.unwish) fun _ _ z => False.elim z
end

/-! ### blocks and small statements -/
section
variable {X : Cx} {st : Stmt} {rest : List Stmt} {t u : TS} {e : Expr} {te : TE} {pos : Pos}
def tNext : TS := fun D σ H => D.nx σ H
def tSeq (t u : TS) : TS := fun D σ H => t { D with nx := u D } σ H
theorem pss_nil : PSs X [] tNext := fun _ _ σ H _ I h => wpAny_execs_nil ⟨σ, H, I, h⟩
theorem pss_cons (h1 : PS X st t) (h2 : PSs X rest u) : PSs X (st :: rest) (tSeq t u) := by
  intro pins s σ H D I h
  refine wpAny_execs_cons (thn (h1 pins s σ H { D with nx := u D } I h) fun f s1 q => ?_)
  cases f with
  | next =>
    obtain ⟨σ', H', I', q⟩ := q
    exact h2 pins s1 σ' H' D I' q
  | ret v => exact q
  | brk => exact q
  | cont => exact q
theorem pss_one (h1 : PS X st t) : PSs X [st] t := by
  intro pins s σ H D I h
  refine wpAny_execs_cons (thn (h1 pins s σ H D I h) fun f s1 q => ?_)
  cases f with
  | next => exact wpAny_execs_nil q
  | ret v => exact q
  | brk => exact q
  | cont => exact q
/-- in a def's body nothing is shown -/
theorem Inv.quiet {pins : List (Addr × Obj)} {σ : St} {H : Hp} {s : Shared} (I : Inv X pins σ H s) : interactive X.env = false := by simp [interactive, I.ok.kind]
/-- an expression whose value is dropped -/
def tDrop (te : TE) : TS := fun D σ H => te σ H fun _ H1 => D.nx σ H1
theorem ps_expr (he : PE X e te) (hs : swapsWith e none pos.line X.env = pure false := by rfl) : PS X (.Expr e pos) (tDrop te) := by
  intro pins s σ H D I h
  exact wpAny_Expr_any (thn (he pins s σ H _ I h) fun v s1 ⟨x, H1, I1, r1, q1⟩ => ⟨σ, H1, I1, q1⟩) I.quiet hs
def tRet (te : TE) : TS := fun D σ H => te σ H D.rt
theorem ps_ret (he : PE X e te) : PS X (.Return (some e) pos) (tRet te) := by
  intro pins s σ H D I h
  exact wpAny_Return_some (thn (he pins s σ H _ I h) fun v s1 ⟨x, H1, I1, r1, q1⟩ => ⟨x, σ, H1, I1, r1, q1⟩)
def tIfS (c : TT) (t u : TS) : TS := fun D σ H => c σ H fun b H1 => if b = true then t D σ H1 else u D σ H1
theorem ps_if {c : Expr} {a b : List Stmt} {tc : TT} (hc : PT X c tc) (ha : PSs X a t) (hb : PSs X b u) : PS X (.If c a b pos) (tIfS tc t u) := by
  intro pins s σ H D I h
  refine wpAny_If (thn (hc pins s σ H _ I h) fun d s1 ⟨H1, I1, q1⟩ => ?_)
  cases d with
  | true => exact ha pins s1 σ H1 D I1 q1
  | false => exact hb pins s1 σ H1 D I1 q1
/-- code that the proof never comes to -/
def tNever : TS := fun _ _ _ => False
theorem ps_never : PS X st tNever := fun _ _ _ _ _ _ h => h.elim
end

/-! ### targets -/
abbrev TG := V → St → Hp → (St → Hp → Prop) → Prop
abbrev TGs := List V → St → Hp → (St → Hp → Prop) → Prop
def PG (X : Cx) (target : Expr) (t : TG) : Prop :=
  ∀ (pins : List (Addr × Obj)) (s : Shared) (σ : St) (H : Hp) (v : V) (u : Value) (Q : St → Hp → Prop), Inv X pins σ H s → RelV v u → t v σ H Q →
    wpAny (model X.prog X.w) X.A (assign target X.env u) (fun _ s' => ∃ σ' H', Inv X pins σ' H' s' ∧ Q σ' H') X.xe s
/-- several targets, one after another -/
def PGs (X : Cx) (ts : List Expr) (t : TGs) : Prop :=
  ∀ (pins : List (Addr × Obj)) (s : Shared) (σ : St) (H : Hp) (vs : List V) (us : List Value) (Q : St → Hp → Prop), Inv X pins σ H s → Vals vs us → t vs σ H Q →
    wpAny (model X.prog X.w) X.A (assignInOrder ((assignEach ts X.env).map (·.2)) us) (fun _ s' => ∃ σ' H', Inv X pins σ' H' s' ∧ Q σ' H') X.xe s
/-- o[i] = v, by values -/
abbrev TSet := V → V → V → Hp → (Hp → Prop) → Prop
def PSet (X : Cx) (t : TSet) : Prop :=
  ∀ (pins : List (Addr × Obj)) (s : Shared) (σ : St) (H : Hp) (o i v : V) (ov iv u : Value) (Q : Hp → Prop), Inv X pins σ H s → RelV o ov → RelV i iv → RelV v u → t o i v H Q →
    wpAny (model X.prog X.w) X.A (setItem ov iv u) (fun _ s' => ∃ H', Inv X pins σ H' s' ∧ Q H') X.xe s
section
variable {X : Cx} {pos : Pos}
def gName (i : Nat) : TG := fun v σ H Q => Q (σ.set i (some v)) H
theorem pg_name {i : Nat} {x : Str} (hN : X.N.Nodup) (hi : X.N[i]? = some x) (hx : Loc X.env.scope x) (hf : X.fn x = true ∨ X.env.scope.names.lookup x = some .local := by first | exact .inl rfl | exact .inr rfl | assumption) : PG X (.Name x pos) (gName i) := by
  intro pins s σ H v u Q I r h
  exact wpAny_assign_Name (store_ok I hN hi hx r (fun s' I' => ⟨_, H, I', h⟩) hf)
def gNil : TGs := fun vs σ H Q => vs = [] ∧ Q σ H
def gCons (t : TG) (u : TGs) : TGs := fun vs σ H Q => ∃ v r, vs = v :: r ∧ t v σ H fun σ' H' => u r σ' H' Q
theorem pgs_nil : PGs X [] gNil := by
  intro pins s σ H vs us Q I r h
  obtain ⟨e, h⟩ := h
  subst e
  cases r
  exact assignInOrder_nil ⟨σ, H, I, h⟩
theorem pgs_cons {e : Expr} {es : List Expr} {t : TG} {u : TGs} (h1 : PG X e t) (h2 : PGs X es u)
    (hs : (assignEach (e :: es) X.env).map (·.2) = assign e X.env :: (assignEach es X.env).map (·.2) := by rfl) : PGs X (e :: es) (gCons t u) := by
  intro pins s σ H vs us Q I r h
  obtain ⟨v, vr, e1, h⟩ := h
  subst e1
  cases r with
  | cons r rr =>
    rw [hs]
    refine assignInOrder_cons (thn (h1 pins s σ H _ _ _ I r h) fun _ s1 ⟨σ1, H1, I1, q1⟩ => ?_)
    exact h2 pins s1 σ1 H1 _ _ Q I1 rr q1
/-- (a, b, ..) = a tuple of that length -/
def gTup (K : PySem.W.Frag) (n : Nat) (t : TGs) : TG := fun v σ H Q => ∃ a xs, v = .ref a ∧ SqT K H a xs ∧ xs.length = n ∧ t xs σ H Q
theorem pg_tup {es : List Expr} {k : Nat} {t : TGs} {n : Nat} (hc : X.calm = true) (h : PGs X es t)
    (hn : (assignEach es X.env).length = n := by rfl) (hst : (assignEach es X.env).findIdx? (·.1) = none := by rfl) : PG X (.Tuple es k pos) (gTup X.K n t) := by
  intro pins s σ H v u Q I r hw
  obtain ⟨a, xs, e1, hq, hl, hw⟩ := hw
  subst e1
  cases r
  obtain ⟨its, rv, ht, hz⟩ := I.tuple hq
  refine assign_Tuple_tuple (I.ok.hd hc) ht (by simp [hn, ← hl, rv.length]) hst fun h' hx => ?_
  have I1 : Inv X pins σ H { s with heap := h' } := I.kept (t' := s.toks) fun b o e => hx b o (Nat.ne_of_lt (Heap.lt_size e)) e
  exact h pins _ σ H xs _ Q I1 (by simpa using rv) hw
/-- o[i] = .. -/
def gSub (to ti : TE) (t : TSet) : TG := fun v σ H Q => to σ H fun o H1 => ti σ H1 fun i H2 => t o i v H2 fun H3 => Q σ H3
theorem pg_sub {o i : Expr} {to ti : TE} {t : TSet} (ho : PE X o to) (hi : PE X i ti) (hs : PSet X t)
    (ha : ∀ v, assign (.Subscript o i pos) X.env v = (do
      let ov ← holding [v] (eval o X.env)
      let iv ← holding [v, ov] (eval i X.env)
      standAt pos
      holding [v, ov, iv] (setItem ov iv v)
      release [v, ov, iv] []) := by intro _; rfl) : PG X (.Subscript o i pos) (gSub to ti t) := by
  intro pins s σ H v u Q I r h
  rw [ha]
  refine wpAny_bind (wpAny_holding (thn (ho pins s σ H _ I h) fun ov s1 ⟨x, H1, I1, r1, q1⟩ => ?_))
  refine wpAny_bind (wpAny_holding (thn (hi pins s1 σ H1 _ I1 q1) fun iv s2 ⟨y, H2, I2, r2, q2⟩ => ?_))
  refine wpAny_bind (wpAny_standAt (wpAny_bind (wpAny_holding (thn (hs pins s2 σ H2 x y v ov iv u _ I2 r1 r2 r q2) fun _ s3 ⟨H3, I3, q3⟩ => ?_))))
  exact wpAny_release ⟨σ, H3, I3, q3⟩
/-- target = value -/
def tAsg (te : TE) (g : TG) : TS := fun D σ H => te σ H fun x H1 => g x σ H1 D.nx
theorem ps_asg {tg e : Expr} {te : TE} {g : TG} (he : PE X e te) (hg : PG X tg g) (hs : swapsWithSole [tg] e pos.line X.env = pure false := by rfl) (hw : swappedStores [tg] e X.env = pure none := by rfl)
    (h1 : (assignEach [tg] X.env).map (·.2) = [assign tg X.env] := by rfl) : PS X (.Assign [tg] e pos) (tAsg te g) := by
  intro pins s σ H D I h
  refine wpAny_Assign_stores (thn (he pins s σ H _ I h) fun v s1 ⟨x, H1, I1, r1, q1⟩ => ?_) hs hw
  rw [h1]
  exact thn (hg pins s1 σ H1 x v _ I1 r1 q1) fun _ s2 q => q
/-- name = value -/
theorem ps_set {i : Nat} {x : Str} {e : Expr} {te : TE} {pos' : Pos} (hN : X.N.Nodup) (hi : X.N[i]? = some x) (hx : Loc X.env.scope x) (he : PE X e te) (hs : swapsWith e (some (.Name x pos')) pos.line X.env = pure false := by rfl) (hf : X.fn x = true ∨ X.env.scope.names.lookup x = some .local := by first | exact .inl rfl | exact .inr rfl | assumption) :
    PS X (.Assign [.Name x pos'] e pos) (tAsg te (gName i)) := by
  intro pins s σ H D I h
  refine wpAny_Assign_Name (thn (he pins s σ H _ I h) fun v s1 ⟨y, H1, I1, r1, q1⟩ => ?_) hs
  exact store_ok I1 hN hi hx r1 (fun s2 I2 => ⟨_, H1, I2, q1⟩) hf
end

/-! ### while -/
section
variable {X : Cx} {pos : Pos}
/-- the invariant W with its measure -/
def tWhile (c : TT) (tb : TS) : TS := fun D σ H => ∃ W : Nat → St → Hp → Prop, (∃ m, W m σ H) ∧ ∀ m σ H, W m σ H →
  c σ H fun b H1 => if b = true then ∃ N : St → Hp → Prop, (∀ σ' H', N σ' H' → ∃ m', m' < m ∧ W m' σ' H') ∧ tb { D with nx := N, ct := N, bk := D.nx } σ H1 else D.nx σ H1
theorem ps_while {c : Expr} {body : List Stmt} {tc : TT} {tb : TS} (hp : PassesOwn (model X.prog X.w) X.A X.env X.xe) (hc : PT X c tc) (hb : PSs X body tb) : PS X (.While c body [] pos) (tWhile tc tb) := by
  intro pins s σ H D I h
  obtain ⟨W, ⟨m0, w0⟩, turn⟩ := h
  refine wpAny_While (codeAny_whileLoop (fun n s' => ∃ σ' H', Inv X pins σ' H' s' ∧ W n σ' H') ?_ m0 ⟨σ, H, I, w0⟩)
  rintro n s1 ⟨σ1, H1, I1, w1⟩
  refine wpAny_passesOwn hp (thn (hc pins s1 σ1 H1 _ I1 (turn n σ1 H1 w1)) fun b s2 ⟨H2, I2, q2⟩ => ?_)
  cases b with
  | true =>
    obtain ⟨N, hN, q2⟩ := q2
    rw [if_pos rfl]
    refine wpAny_passesOwn hp (thn (hb pins s2 σ1 H2 _ I2 q2) fun f s3 q3 => ?_)
    cases f with
    | next =>
      obtain ⟨σ3, H3, I3, n3⟩ := q3
      obtain ⟨m', hm, w3⟩ := hN σ3 H3 n3
      exact ⟨m', hm, σ3, H3, I3, w3⟩
    | cont =>
      obtain ⟨σ3, H3, I3, n3⟩ := q3
      obtain ⟨m', hm, w3⟩ := hN σ3 H3 n3
      exact ⟨m', hm, σ3, H3, I3, w3⟩
    | brk => exact q3
    | ret v => exact q3
  | false =>
    rw [if_neg Bool.false_ne_true]
    exact wpAny_execs_nil ⟨σ1, H2, I2, q2⟩
end

/-! ### what a loop or a comprehension walks -/
/-- at turn i: it yields x (the heap may grow), or it stops -/
structure It where
  go : Nat → Hp → Prop
  yld : Nat → Hp → V → Hp → Prop
  stop : Nat → Hp → Prop
/-- the iterator's own objects may turn: they are not the frame's, not pinned, younger than the entry (or a comprehension's own) -/
def FpOk (X : Cx) (pins : List (Addr × Obj)) (H : Hp) (b : Addr) : Prop :=
  H b = none ∧ b ≠ X.env.locals ∧ b ∉ X.fs ∧ (b ∈ X.ex ∨ X.s₀.heap.objs.size ≤ b) ∧ (∀ x c, X.env.cells.lookup x = some c → c ≠ b) ∧ ∀ p ∈ X.pn ++ pins, p.1 ≠ b
theorem Inv.fpOk {X : Cx} {pins : List (Addr × Obj)} {σ : St} {H H' : Hp} {s : Shared} {b : Addr} (I : Inv X pins σ H s) (hb : s.heap.objs.size ≤ b) (hn : H' b = none) : FpOk X pins H' b := by
  refine ⟨hn, Nat.ne_of_gt (Nat.lt_of_lt_of_le I.lt hb), I.nofs hb, .inr (Nat.le_trans I.sz hb), fun x c e z => ?_, fun p hp z => ?_⟩
  · obtain ⟨v, q⟩ := I.cell x c e
    exact absurd (Nat.lt_of_lt_of_le q.lt (by rw [z]; exact hb)) (Nat.lt_irrefl _)
  · exact absurd (Nat.lt_of_lt_of_le (Heap.lt_size (I.pin p hp).1) (by rw [z]; exact hb)) (Nat.lt_irrefl _)
structure Turn (P : Program) (w : World) (K : PySem.W.Frag) (tg : Expr) (J : It) (fp : List Addr) (it : Addr) (tn : Nat → Heap → Prop) : Prop where
  mem : it ∈ fp
  obj : ∀ i h, tn i h → ∀ b ∈ fp, ∃ o, h.get? b = some o ∧ ∀ v, o.data ≠ .cell v
  keep : ∀ i h h', tn i h → (∀ b ∈ fp, ∀ o, h.get? b = some o → h'.get? b = some o) → tn i h'
  item : ∀ (X : Cx), X.prog = P → X.w = w → X.K = K → X.calm = true → ∀ (i : Nat) (pins : List (Addr × Obj)) (s : Shared) (σ : St) (H : Hp) (E : Value → Shared → Prop), Inv X pins σ H s → (∀ b ∈ fp, FpOk X pins H b) → tn i s.heap → J.go i H →
    wpAny (model P w) X.A (pyNext (.ref it)) (fun r s1 => ∃ u, r = some u ∧
      wpAny (model P w) X.A (letOwnedTupleGo tg (.ref it) u) (fun _ s2 => ∃ x H', Inv X pins σ H' s2 ∧ RelV x u ∧ J.yld i H x H' ∧ tn (i + 1) s2.heap ∧ ∀ b ∈ fp, H' b = none) E s1) E s
  done : ∀ (X : Cx), X.prog = P → X.w = w → X.K = K → X.calm = true → ∀ (i : Nat) (pins : List (Addr × Obj)) (s : Shared) (σ : St) (H : Hp) (E : Value → Shared → Prop), Inv X pins σ H s → (∀ b ∈ fp, FpOk X pins H b) → tn i s.heap → J.stop i H →
    wpAny (model P w) X.A (pyNext (.ref it)) (fun r s1 => r = none ∧ Inv X pins σ H s1) E s
  self : ∀ (A : Around) (i : Nat) (s : Shared) (Q : Value → Shared → Prop) (E : Value → Shared → Prop), tn i s.heap → Q (.ref it) s → wpAny (model P w) A (pyIter (.ref it)) Q E s
abbrev TI := St → Hp → (It → Hp → Prop) → Prop
/-- an iterator has come -/
def PIE (X : Cx) (pins : List (Addr × Obj)) (σ : St) (tg : Expr) (R : It → Hp → Prop) (itv : Value) (s2 : Shared) : Prop :=
  ∃ (it : Addr) (fp : List Addr) (tn : Nat → Heap → Prop) (J : It) (H' : Hp), itv = .ref it ∧ Inv X pins σ H' s2 ∧ Turn X.prog X.w X.K tg J fp it tn ∧ tn 0 s2.heap ∧ (∀ b ∈ fp, FpOk X pins H' b) ∧ R J H'
def PI (X : Cx) (tg iter : Expr) (wi : TI) : Prop :=
  ∀ (pins : List (Addr × Obj)) (s : Shared) (σ : St) (H : Hp) (R : It → Hp → Prop), Inv X pins σ H s → wi σ H R →
    wpAny (model X.prog X.w) X.A (eval iter X.env) (fun v s1 => wpAny (model X.prog X.w) X.A (pyIter v) (PIE X pins σ tg R) X.xe s1) X.xe s

/-- the step ahead of the store is nothing for an iterator that keeps no tuple -/
theorem go_of {M : Model} {A : Around} {E : Value → Shared → Prop} {s : Shared} {tg : Expr} {it : Addr} {u : Value} {o : Obj} {n : String} {vs : Array Value} {Q : Unit → Shared → Prop} (ho : s.heap.get? it = some o) (hc : o.cls = .type n) (hd : o.data = .fields vs)
    (hn : ["enumerate", "zip", "dict_itemiterator", "dict_reverseitemiterator", "odict_iterator", "itertools.zip_longest", "itertools.pairwise"].contains n = false) (hQ : Q () s) : wpAny M A (letOwnedTupleGo tg (.ref it) u) Q E s := by
  unfold letOwnedTupleGo
  cases tg <;> first
    | exact wpAny_pure hQ
    | (cases u <;> first
        | exact wpAny_pure hQ
        | (refine wpAny_bind (wpAny_load ho ?_)
           rw [hc, hd]
           show wpAny M A (if (["enumerate", "zip", "dict_itemiterator", "dict_reverseitemiterator", "odict_iterator", "itertools.zip_longest", "itertools.pairwise"].contains n && vs[0]? == some (rawInt _)) = true then _ else _) Q E s
           rw [if_neg (by intro h; rw [hn, Bool.false_and] at h; cases h)]
           exact wpAny_pure hQ))

/-- the list at a, as it stands at each turn (a loop may append to it) -/
def Itl (K : PySem.W.Frag) (a : Addr) : It :=
  ⟨fun i H => ∃ xs x, SqL K H a xs ∧ xs[i]? = some x, fun i H x H' => H' = H ∧ ∀ xs, SqL K H a xs → xs[i]? = some x, fun i H => ∃ xs, SqL K H a xs ∧ xs.length ≤ i⟩
def Itt (K : PySem.W.Frag) (a : Addr) : It :=
  ⟨fun i H => ∃ xs x, SqT K H a xs ∧ xs[i]? = some x, fun i H x H' => H' = H ∧ ∀ xs, SqT K H a xs → xs[i]? = some x, fun i H => ∃ xs, SqT K H a xs ∧ xs.length ≤ i⟩
/-- lo, lo + 1, .. (n of them) -/
def Itr (lo : Int) (n : Nat) : It := ⟨fun i _ => i < n, fun i H x H' => H' = H ∧ x = .int (lo + i), fun i _ => n ≤ i⟩
theorem turn_list {P : Program} {w : World} {K : PySem.W.Frag} {tg : Expr} (a it : Addr) : Turn P w K tg (Itl K a) [it] it (fun i h => h.IsListIter it a i) where
  mem := by simp
  obj := fun i h st b hb => by
    have e : b = it := by simpa using hb
    subst e
    obtain ⟨o, e, c, d⟩ := st
    exact ⟨o, e, fun v z => by rw [d] at z; cases z⟩
  keep := fun i h h' st k => st.at fun o e => k it (by simp) o e
  item := by
    intro X hP hw hK hc i pins s σ H E I hf st hg
    subst hP hw hK
    obtain ⟨xs, x, hq, hx⟩ := hg
    obtain ⟨its, rv, p, hz⟩ := I.list hq
    obtain ⟨u, hu, ru⟩ := rv.get hx
    obtain ⟨f0, f1, f2, f3, f4, f5⟩ := hf it (by simp)
    refine wpAny_pyNext_list_item st p.isList (x := u) (by simpa using hu) fun h' st' sb => ?_
    have I1 : Inv X pins σ H { s with heap := h' } := I.turned (t' := s.toks) (fun b o hb e => (sb.2 b hb).trans e) f0 f1 f3 f4 f5
    obtain ⟨o, e, c, d⟩ := id st'
    exact ⟨u, rfl, go_of (s := { s with heap := h' }) e c d (by decide) ⟨x, H, I1, ru, ⟨rfl, fun ys hy => by rw [I.list_inj hy hq]; exact hx⟩, st', fun b hb => (hf b hb).1⟩⟩
  done := by
    intro X hP hw hK hc i pins s σ H E I hf st hg
    subst hP hw hK
    obtain ⟨xs, hq, hx⟩ := hg
    obtain ⟨its, rv, p, hz⟩ := I.list hq
    obtain ⟨f0, f1, f2, f3, f4, f5⟩ := hf it (by simp)
    have hl := rv.length
    exact wpAny_pyNext_list_end (I.ok.hd hc) st p.isList (by simp; omega) fun h' eb => ⟨rfl, I.turned (t' := s.toks) (fun b o hb e => eb b o hb e) f0 f1 f3 f4 f5⟩
  self := fun _ _ _ _ _ st h => wpAny_pyIter_listiter st h
theorem turn_tuple {P : Program} {w : World} {K : PySem.W.Frag} {tg : Expr} (a it : Addr) : Turn P w K tg (Itt K a) [it] it (fun i h => h.IsTupleIter it a i) where
  mem := by simp
  obj := fun i h st b hb => by
    have e : b = it := by simpa using hb
    subst e
    obtain ⟨o, e, c, d⟩ := st
    exact ⟨o, e, fun v z => by rw [d] at z; cases z⟩
  keep := fun i h h' st k => st.at fun o e => k it (by simp) o e
  item := by
    intro X hP hw hK hc i pins s σ H E I hf st hg
    subst hP hw hK
    obtain ⟨xs, x, hq, hx⟩ := hg
    obtain ⟨its, rv, p, hz⟩ := I.tuple hq
    obtain ⟨u, hu, ru⟩ := rv.get hx
    obtain ⟨f0, f1, f2, f3, f4, f5⟩ := hf it (by simp)
    refine wpAny_pyNext_tuple_item st (show s.heap.IsTuple a its.toArray from p) (x := u) (by simpa using hu) fun h' st' sb => ?_
    have I1 : Inv X pins σ H { s with heap := h' } := I.turned (t' := s.toks) (fun b o hb e => (sb.2 b hb).trans e) f0 f1 f3 f4 f5
    obtain ⟨o, e, c, d⟩ := id st'
    exact ⟨u, rfl, go_of (s := { s with heap := h' }) e c d (by decide) ⟨x, H, I1, ru, ⟨rfl, fun ys hy => by rw [I.tuple_inj hy hq]; exact hx⟩, st', fun b hb => (hf b hb).1⟩⟩
  done := by
    intro X hP hw hK hc i pins s σ H E I hf st hg
    subst hP hw hK
    obtain ⟨xs, hq, hx⟩ := hg
    obtain ⟨its, rv, p, hz⟩ := I.tuple hq
    obtain ⟨f0, f1, f2, f3, f4, f5⟩ := hf it (by simp)
    have hl := rv.length
    exact wpAny_pyNext_tuple_end (I.ok.hd hc) st (show s.heap.IsTuple a its.toArray from p) (by simp; omega) fun h' eb => ⟨rfl, I.turned (t' := s.toks) (fun b o hb e => eb b o hb e) f0 f1 f3 f4 f5⟩
  self := fun _ _ _ _ _ st h => wpAny_pyIter_tupleiter st h
theorem turn_range {P : Program} {w : World} {K : PySem.W.Frag} {tg : Expr} (it : Addr) (lo : Int) (n : Nat) : Turn P w K tg (Itr lo n) [it] it (fun i h => IsRangeIter h it (lo + (i : Nat) * 1) ((n : Int) - (i : Nat)) 1) where
  mem := by simp
  obj := fun i h st b hb => by
    have e : b = it := by simpa using hb
    subst e
    exact ⟨_, st, fun v z => by
      have z' : Data.fields _ = Data.cell v := z
      cases z'⟩
  keep := fun i h h' st k => k it (by simp) _ st
  item := by
    intro X hP hw hK hc i pins s σ H E I hf st hg
    subst hP hw hK
    obtain ⟨f0, f1, f2, f3, f4, f5⟩ := hf it (by simp)
    have W := Walks.range (prog := X.prog) (w := X.w) (I.ok.hd hc) it lo 1 n
    refine W.item i s _ _ hg st fun v h' tk hv st' kk => ?_
    obtain ⟨t, rfl⟩ := hv
    have I1 : Inv X pins σ H { s with heap := h', toks := tk } := I.turned (fun b o hb e => kk b o (by simpa using hb) e) f0 f1 f3 f4 f5
    refine ⟨_, rfl, go_of (s := { s with heap := h', toks := tk }) (n := "range_iterator") st' rfl rfl (by decide) ⟨.int (lo + i), H, I1, ⟨t, ?_⟩, ⟨rfl, rfl⟩, st', fun b hb => (hf b hb).1⟩⟩
    rw [Int.mul_one]
  done := by
    intro X hP hw hK hc i pins s σ H E I hf st hg
    subst hP hw hK
    obtain ⟨f0, f1, f2, f3, f4, f5⟩ := hf it (by simp)
    exact wpAny_pyNext_range_end (I.ok.hd hc) st (by have : n ≤ i := hg; omega) fun h' eb => ⟨rfl, I.turned (t' := s.toks) (fun b o hb e => eb b o hb e) f0 f1 f3 f4 f5⟩
  self := fun _ _ _ _ _ st h => wpAny_pyIter_rangeiter st h
end L2

namespace L2
open PySem PySem.Spec PyProof.Rows
section
variable {X : Cx} {tg : Expr}
def iList (K : PySem.W.Frag) (tl : TE) : TI := fun σ H R => tl σ H fun x H1 => ∃ a, x = .ref a ∧ (∃ xs, SqL K H1 a xs) ∧ R (Itl K a) H1
def iTup (K : PySem.W.Frag) (tl : TE) : TI := fun σ H R => tl σ H fun x H1 => ∃ a, x = .ref a ∧ (∃ xs, SqT K H1 a xs) ∧ R (Itt K a) H1
theorem pi_list {l : Expr} {tl : TE} (hl : PE X l tl) : PI X tg l (iList X.K tl) := by
  intro pins s σ H R I h
  refine thn (hl pins s σ H _ I h) fun v s1 ⟨x, H1, I1, r1, q1⟩ => ?_
  obtain ⟨a, e, ⟨xs, hq⟩, q⟩ := q1
  subst e
  cases r1
  obtain ⟨its, rv, p, hz⟩ := I1.list hq
  refine wpAny_pyIter_list p.isList ?_
  refine ⟨s1.heap.objs.size, [s1.heap.objs.size], _, _, H1, rfl, I1.kept (t' := s1.toks) fun b o e => Heap.get?_push_of_some _ e, turn_list a _, ⟨_, Heap.get?_push_size _ rfl, rfl, rfl⟩, fun b hb => ?_, q⟩
  have e : b = s1.heap.objs.size := by simpa using hb
  subst e
  exact I1.fpOk (Nat.le_refl _) (I1.hok.fresh (Nat.le_refl _))
theorem pi_tup {l : Expr} {tl : TE} (hl : PE X l tl) : PI X tg l (iTup X.K tl) := by
  intro pins s σ H R I h
  refine thn (hl pins s σ H _ I h) fun v s1 ⟨x, H1, I1, r1, q1⟩ => ?_
  obtain ⟨a, e, ⟨xs, hq⟩, q⟩ := q1
  subst e
  cases r1
  obtain ⟨its, rv, p, hz⟩ := I1.tuple hq
  refine wpAny_pyIter_tuple (show s1.heap.IsTuple a its.toArray from p) ?_
  refine ⟨s1.heap.objs.size, [s1.heap.objs.size], _, _, H1, rfl, I1.kept (t' := s1.toks) fun b o e => Heap.get?_push_of_some _ e, turn_tuple a _, ⟨_, Heap.get?_push_size _ rfl, rfl, rfl⟩, fun b hb => ?_, q⟩
  have e : b = s1.heap.objs.size := by simpa using hb
  subst e
  exact I1.fpOk (Nat.le_refl _) (I1.hok.fresh (Nat.le_refl _))
/-- a range object just made, walked -/
theorem range_it {pins : List (Addr × Obj)} {σ : St} {H : Hp} {s : Shared} {R : It → Hp → Prop} {E : Value → Shared → Prop} {lo hi : Int} {t u v : Tok} {tk : Nat} (I : Inv X pins σ H s) (h1 : -(2 ^ 62) ≤ lo) (h2 : lo < 2 ^ 62) (h3 : -(2 ^ 62) ≤ hi) (h4 : hi < 2 ^ 62)
    (q : R (Itr lo (hi - lo).toNat) H) : wpAny (model X.prog X.w) X.A (pyIter (.ref s.heap.objs.size)) (PIE X pins σ tg R) E { s with heap := s.heap.push { cls := .type "range", data := .fields #[.int lo t, .int hi u, .int 1 v] }, toks := tk } := by
  refine wpAny_pyIter_range (IsRange.new ..) (small_one h1 h2 h3 h4) ?_
  have I1 : Inv X pins σ H { s with heap := s.heap.push { cls := .type "range", data := .fields #[.int lo t, .int hi u, .int 1 v] }, toks := tk } := I.kept fun b o e => Heap.get?_push_of_some _ e
  refine ⟨(s.heap.push { cls := .type "range", data := .fields #[.int lo t, .int hi u, .int 1 v] }).objs.size, [(s.heap.push { cls := .type "range", data := .fields #[.int lo t, .int hi u, .int 1 v] }).objs.size], _, _, H, rfl,
    I1.kept (t' := tk) fun b o e => Heap.get?_push_of_some _ e, turn_range _ lo (hi - lo).toNat, ?_, fun b hb => ?_, q⟩
  · have e1 : lo + ((0 : Nat) : Int) * 1 = lo := by simp
    have e2 : (((hi - lo).toNat : Nat) : Int) - ((0 : Nat) : Int) = Builtin.Range.rangeSize lo hi 1 := by rw [rangeSize_one]; split <;> omega
    show IsRangeIter _ _ (lo + ((0 : Nat) : Int) * 1) ((((hi - lo).toNat : Nat) : Int) - ((0 : Nat) : Int)) 1
    rw [e1, e2]
    exact Heap.get?_push_size _ rfl
  · have e : b = (s.heap.push { cls := .type "range", data := .fields #[.int lo t, .int hi u, .int 1 v] }).objs.size := by simpa using hb
    subst e
    exact I1.fpOk (Nat.le_refl _) (I1.hok.fresh (Nat.le_refl _))
def iRng1 (ta : TA) : TI := fun σ H R => ta σ H fun vs H1 => ∃ j : Int, vs = [.int j] ∧ -(2 ^ 62) ≤ j ∧ j < 2 ^ 62 ∧ R (Itr 0 j.toNat) H1
def iRng2 (ta : TA) : TI := fun σ H R => ta σ H fun vs H1 => ∃ i j : Int, vs = [.int i, .int j] ∧ (-(2 ^ 62) ≤ i ∧ i < 2 ^ 62 ∧ -(2 ^ 62) ≤ j ∧ j < 2 ^ 62) ∧ R (Itr i (j - i).toNat) H1
theorem pi_range1 {a : Expr} {ta : TA} {p pos : Pos} (hg : Gl X "range") (hm : X.mg "range" = none) (ha : PA X [a] ta) (hs : starEach [a] X.env = [(false, eval a X.env)] := by rfl) : PI X tg (.Call (.Name "range" p) [a] [] pos) (iRng1 ta) := by
  intro pins s σ H R I h
  refine Call_ (ld_blt I hg hm boot_range (PyProof.Rows.callWith_type1 (thn (ha pos pins s σ H _ I h) fun us s1 ⟨vs, H1, I1, r1, q1⟩ => ?_) hs rfl))
  obtain ⟨j, e, q1, q2, q⟩ := q1
  subst e
  cases r1 with
  | cons r rr =>
    cases rr
    obtain ⟨t, rfl⟩ := r
    exact call_range_1 (range_it I1 (by omega) (by omega) q1 q2 (by simpa using q))
theorem pi_range2 {a b : Expr} {ta : TA} {p pos : Pos} (hg : Gl X "range") (hm : X.mg "range" = none) (ha : PA X [a, b] ta) (hs : starEach [a, b] X.env = [(false, eval a X.env), (false, eval b X.env)] := by rfl) (hs2 : starEach [b] X.env = [(false, eval b X.env)] := by rfl) :
    PI X tg (.Call (.Name "range" p) [a, b] [] pos) (iRng2 ta) := by
  intro pins s σ H R I h
  refine Call_ (ld_blt I hg hm boot_range (PyProof.Rows.callWith_type1 (thn (ha pos pins s σ H _ I h) fun us s1 ⟨vs, H1, I1, r1, q1⟩ => ?_) (by rw [hs, hs2]) (by rw [hs2]; rfl)))
  obtain ⟨i, j, e, ⟨q1, q2, q3, q4⟩, q⟩ := q1
  subst e
  cases r1 with
  | cons r rr =>
    cases rr with
    | cons r' rr =>
      cases rr
      obtain ⟨t, rfl⟩ := r
      obtain ⟨t', rfl⟩ := r'
      exact call_range_2 (range_it I1 q1 q2 q3 q4 q)

/-! ### for -/
/-- W: the invariant by the turn and a measure; N: what the body is to reach -/
def tFor (wi : TI) (g : TG) (tb : TS) : TS := fun D σ H => wi σ H fun J H1 => ∃ W : Nat → Nat → St → Hp → Prop, (∃ m, W 0 m σ H1) ∧ ∀ i m σ H, W i m σ H →
  (J.stop i H ∧ D.nx σ H) ∨ (J.go i H ∧ ∃ N : St → Hp → Prop, (∀ σ' H', N σ' H' → ∃ m', m' < m ∧ W (i + 1) m' σ' H') ∧ ∀ x H', J.yld i H x H' → g x σ H' fun σ2 H2 => tb { D with nx := N, ct := N, bk := D.nx } σ2 H2)
/-- the records at fp as they stand -/
def pinsAt (fp : List Addr) (h : Heap) : List (Addr × Obj) := fp.filterMap fun b => (h.get? b).map fun o => (b, o)
theorem mem_pinsAt {fp : List Addr} {h : Heap} {b : Addr} {o : Obj} (hb : b ∈ fp) (e : h.get? b = some o) : (b, o) ∈ pinsAt fp h := List.mem_filterMap.mpr ⟨b, hb, by rw [e]; rfl⟩
theorem of_pinsAt {fp : List Addr} {h : Heap} {p : Addr × Obj} (hp : p ∈ pinsAt fp h) : p.1 ∈ fp ∧ h.get? p.1 = some p.2 := by
  obtain ⟨b, hb, e⟩ := List.mem_filterMap.mp hp
  cases q : h.get? b with
  | none => rw [q] at e; cases e
  | some o =>
    rw [q] at e
    have e' : (b, o) = p := Option.some.inj e
    subst e'
    exact ⟨hb, q⟩
theorem Inv.pinned {pins : List (Addr × Obj)} {σ : St} {H : Hp} {s : Shared} {fp : List Addr} (I : Inv X pins σ H s) (hf : ∀ b ∈ fp, FpOk X pins H b) (ho : ∀ b ∈ fp, ∃ o, s.heap.get? b = some o ∧ ∀ v, o.data ≠ .cell v) : Inv X (pins ++ pinsAt fp s.heap) σ H s :=
  I.pins_of fun p hp => (List.mem_append.mp hp).elim (fun z => I.pin p (List.mem_append_right _ z)) fun z => by
    obtain ⟨hb, e⟩ := of_pinsAt z
    obtain ⟨f0, f1, f2, _⟩ := hf p.1 hb
    obtain ⟨o, e', d⟩ := ho p.1 hb
    rw [e] at e'; cases e'
    exact ⟨e, f0, f1, f2, d⟩
theorem Inv.unpinned {pins pl : List (Addr × Obj)} {σ : St} {H : Hp} {s : Shared} (I : Inv X (pins ++ pl) σ H s) : Inv X pins σ H s := I.pins_of fun p hp => I.pin p (List.mem_append_right _ (List.mem_append_left _ hp))
theorem ps_for {iter : Expr} {body : List Stmt} {wi : TI} {g : TG} {tb : TS} {pos : Pos} (hp : PassesOwn (model X.prog X.w) X.A X.env X.xe) (hc : X.calm = true) (hi : PI X tg iter wi) (hg : PG X tg g) (hb : PSs X body tb)
    (hs : ∀ x, foldedSetIterable iter X.env x = pure x := by intro _; rfl) : PS X (.For tg iter body [] pos) (tFor wi g tb) := by
  intro pins s σ H D I h
  refine wpAny_For (thn (hi pins s σ H _ I h) fun v s1 h1 => thn h1 fun itv s2 h2 => ?_) hs
  obtain ⟨it, fp, tn, J, H2, e, I2, T, st2, f2, W, ⟨m0, w0⟩, turn⟩ := h2
  subst e
  -- what stays true of the iterator's objects through the loop
  have stat : ∀ {H' : Hp}, (∀ b ∈ fp, H' b = none) → ∀ b ∈ fp, FpOk X pins H' b := fun hn b hb => ⟨hn b hb, (f2 b hb).2⟩
  refine codeAny_forLoop_any (fun n s' => ∃ i σ' H', Inv X pins σ' H' s' ∧ tn i s'.heap ∧ (∀ b ∈ fp, H' b = none) ∧ W i n σ' H') ?_ m0 ⟨0, σ, H2, I2, st2, fun b hb => (f2 b hb).1, w0⟩
  rintro n s3 ⟨i, σ3, H3, I3, st3, fr3, w3⟩
  rcases turn i n σ3 H3 w3 with ⟨stop, qn⟩ | ⟨go, N, hN, step⟩
  · refine wpAny_passesOwn hp (thn (T.done X rfl rfl rfl hc i pins s3 σ3 H3 X.xe I3 (stat fr3) st3 stop) fun r s4 ⟨hr, I4⟩ => ?_)
    subst hr
    exact wpAny_execs_nil ⟨σ3, H3, I4, qn⟩
  · refine wpAny_passesOwn hp (thn (T.item X rfl rfl rfl hc i pins s3 σ3 H3 X.xe I3 (stat fr3) st3 go) fun r s4 ⟨u, hr, h4⟩ => ?_)
    subst hr
    refine wpAny_passesOwn hp (thn h4 fun _ s5 ⟨x, H5, I5, r5, y5, st5, fr5⟩ => ?_)
    have I5' := I5.pinned (stat fr5) (T.obj _ _ st5)
    refine wpAny_passesOwn hp (thn (hg _ s5 σ3 H5 x u _ I5' r5 (step x H5 y5)) fun _ s6 ⟨σ6, H6, I6, q6⟩ => ?_)
    refine wpAny_passesOwn hp (thn (hb _ s6 σ6 H6 _ I6 q6) fun f s7 q7 => ?_)
    have again : ∀ {σ7 : St} {H7 : Hp}, Inv X (pins ++ pinsAt fp s5.heap) σ7 H7 s7 → N σ7 H7 → ∃ m, m < n ∧ ∃ i σ' H', Inv X pins σ' H' s7 ∧ tn i s7.heap ∧ (∀ b ∈ fp, H' b = none) ∧ W i m σ' H' := fun {σ7 H7} I7 n7 => by
      obtain ⟨m', hm, w7⟩ := hN σ7 H7 n7
      refine ⟨m', hm, i + 1, σ7, H7, I7.unpinned, T.keep _ _ _ st5 fun b hb o e => (I7.pin (b, o) (List.mem_append_right _ (List.mem_append_right _ (mem_pinsAt hb e)))).1, fun b hb => ?_, w7⟩
      obtain ⟨o, e, d⟩ := T.obj _ _ st5 b hb
      exact (I7.pin (b, o) (List.mem_append_right _ (List.mem_append_right _ (mem_pinsAt hb e)))).2.1
    cases f with
    | next => obtain ⟨σ7, H7, I7, n7⟩ := q7; exact again I7 n7
    | cont => obtain ⟨σ7, H7, I7, n7⟩ := q7; exact again I7 n7
    | brk => obtain ⟨σ7, H7, I7, q7⟩ := q7; exact ⟨σ7, H7, I7.unpinned, q7⟩
    | ret v => obtain ⟨x7, σ7, H7, I7, r7, q7⟩ := q7; exact ⟨x7, σ7, H7, I7.unpinned, r7, q7⟩
end

/-! ### the forms one uses -/
/-- over a list that the body leaves as it is -/
theorem for_list {K : PySem.W.Frag} {a : Addr} {xs : List V} {g : TG} {tb : TS} {D : Ends} {σ : St} {H : Hp} (Pv : Nat → St → Hp → Prop) (h0 : Pv 0 σ H) (hl : ∀ i σ H, i ≤ xs.length → Pv i σ H → SqL K H a xs)
    (hs : ∀ i x σ H, xs[i]? = some x → Pv i σ H → g x σ H fun σ2 H2 => tb { D with nx := Pv (i + 1), ct := Pv (i + 1), bk := D.nx } σ2 H2) (hd : ∀ σ H, Pv xs.length σ H → D.nx σ H) :
    ∃ W : Nat → Nat → St → Hp → Prop, (∃ m, W 0 m σ H) ∧ ∀ i m σ H, W i m σ H →
      ((Itl K a).stop i H ∧ D.nx σ H) ∨ ((Itl K a).go i H ∧ ∃ N : St → Hp → Prop, (∀ σ' H', N σ' H' → ∃ m', m' < m ∧ W (i + 1) m' σ' H') ∧ ∀ x H', (Itl K a).yld i H x H' → g x σ H' fun σ2 H2 => tb { D with nx := N, ct := N, bk := D.nx } σ2 H2) := by
  refine ⟨fun i m σ H => m = xs.length - i ∧ i ≤ xs.length ∧ Pv i σ H, ⟨xs.length, by simp, Nat.zero_le _, h0⟩, ?_⟩
  rintro i m σ H ⟨rfl, hi, p⟩
  have q := hl i σ H hi p
  by_cases hlt : i < xs.length
  · refine .inr ⟨⟨xs, xs[i], q, by simp [hlt]⟩, Pv (i + 1), fun σ' H' p' => ⟨xs.length - (i + 1), by omega, rfl, hlt, p'⟩, fun x H' y => ?_⟩
    obtain ⟨e, y⟩ := y
    subst e
    exact hs i x σ _ (y xs q) p
  · have e : i = xs.length := by omega
    subst e
    exact .inl ⟨⟨xs, q, Nat.le_refl _⟩, hd σ H p⟩
theorem for_range {lo : Int} {n : Nat} {g : TG} {tb : TS} {D : Ends} {σ : St} {H : Hp} (Pv : Nat → St → Hp → Prop) (h0 : Pv 0 σ H)
    (hs : ∀ i σ H, i < n → Pv i σ H → g (.int (lo + i)) σ H fun σ2 H2 => tb { D with nx := Pv (i + 1), ct := Pv (i + 1), bk := D.nx } σ2 H2) (hd : ∀ σ H, Pv n σ H → D.nx σ H) :
    ∃ W : Nat → Nat → St → Hp → Prop, (∃ m, W 0 m σ H) ∧ ∀ i m σ H, W i m σ H →
      ((Itr lo n).stop i H ∧ D.nx σ H) ∨ ((Itr lo n).go i H ∧ ∃ N : St → Hp → Prop, (∀ σ' H', N σ' H' → ∃ m', m' < m ∧ W (i + 1) m' σ' H') ∧ ∀ x H', (Itr lo n).yld i H x H' → g x σ H' fun σ2 H2 => tb { D with nx := N, ct := N, bk := D.nx } σ2 H2) := by
  refine ⟨fun i m σ H => m = n - i ∧ i ≤ n ∧ Pv i σ H, ⟨n, by simp, Nat.zero_le _, h0⟩, ?_⟩
  rintro i m σ H ⟨rfl, hi, p⟩
  by_cases hlt : i < n
  · refine .inr ⟨hlt, Pv (i + 1), fun σ' H' p' => ⟨n - (i + 1), by omega, rfl, hlt, p'⟩, fun x H' y => ?_⟩
    obtain ⟨e, y⟩ := y
    subst e y
    exact hs i σ _ hlt p
  · have e : i = n := by omega
    subst e
    exact .inl ⟨Nat.le_refl _, hd σ H p⟩
end L2

namespace L2
open PySem PySem.Spec PyProof.Rows

abbrev R2 := V → V → Hp → VK → Prop
/-- a two-place operation on values: f is binaryOp op, inplaceOp op or compareOp op -/
def OpR (X : Cx) (f : Value → Value → Sem Value) (r : R2) : Prop :=
  ∀ (pins : List (Addr × Obj)) (s : Shared) (σ : St) (H : Hp) (x y : V) (v u : Value) (Q : VK), Inv X pins σ H s → RelV x v → RelV y u → r x y H Q →
    wpAny (model X.prog X.w) X.A (f v u) (EP X pins σ Q) X.xe s
/-- a one-place operation -/
def UnR (X : Cx) (f : Value → Sem Value) (r : V → Hp → VK → Prop) : Prop :=
  ∀ (pins : List (Addr × Obj)) (s : Shared) (σ : St) (H : Hp) (x : V) (v : Value) (Q : VK), Inv X pins σ H s → RelV x v → r x H Q →
    wpAny (model X.prog X.w) X.A (f v) (EP X pins σ Q) X.xe s
/-- a call of a value that is known (a builtin, a type) with values -/
def CallR (X : Cx) (f : Value) (r : List V → Hp → VK → Prop) : Prop :=
  ∀ (pins : List (Addr × Obj)) (s : Shared) (σ : St) (H : Hp) (xs : List V) (us : List Value) (Q : VK), Inv X pins σ H s → Vals xs us → r xs H Q →
    wpAny (model X.prog X.w) X.A (call f us) (EP X pins σ Q) X.xe s
def tOp (r : R2) (ta tb : TE) : TE := fun σ H Q => ta σ H fun x H1 => tb σ H1 fun y H2 => r x y H2 Q
def tUn (r : V → Hp → VK → Prop) (ta : TE) : TE := fun σ H Q => ta σ H fun x H1 => r x H1 Q
/-- ints in, under C, and a value out -/
def rI (C : Int → Int → Prop) (g : Int → Int → V) : R2 := fun x y H Q => ∃ i j, x = .int i ∧ y = .int j ∧ C i j ∧ Q (g i j) H
def rI0 (g : Int → Int → V) : R2 := fun x y H Q => ∃ i j, x = .int i ∧ y = .int j ∧ Q (g i j) H
def rU (g : Int → V) : V → Hp → VK → Prop := fun x H Q => ∃ i, x = .int i ∧ Q (g i) H

section
variable {X : Cx} {a b c : Expr} {ta tb tc : TE} {pos : Pos}

theorem binT (ha : PE X a ta) (hb : PE X b tb) {pins : List (Addr × Obj)} {s : Shared} {σ : St} {H : Hp} {R : V → V → Hp → Prop} (I : Inv X pins σ H s)
    (h : ta σ H fun x H1 => tb σ H1 fun y H2 => R x y H2) {Q : Value → Shared → Prop} {f : Value → Value → Sem Value}
    (hf : ∀ v u s2 x y H2, Inv X pins σ H2 s2 → RelV x v → RelV y u → R x y H2 → wpAny (model X.prog X.w) X.A (f v u) Q X.xe s2) :
    wpAny (model X.prog X.w) X.A (eval a X.env) (fun v s₁ => wpAny (model X.prog X.w) X.A (eval b X.env) (fun u s₂ => wpAny (model X.prog X.w) X.A (f v u) Q X.xe s₂) X.xe s₁) X.xe s := by
  refine thn (ha pins s σ H _ I h) fun v s1 ⟨x, H1, I1, r1, q1⟩ => ?_
  refine thn (hb pins s1 σ H1 _ I1 q1) fun u s2 ⟨y, H2, I2, r2, q2⟩ => ?_
  exact hf v u s2 x y H2 I2 r1 r2 q2

theorem pe_op {op : Operator} {r : R2} (ho : OpR X (binaryOp op) r) (ha : PE X a ta) (hb : PE X b tb) : PE X (.BinOp a op b pos) (tOp r ta tb) := by
  intro pins s σ H Q I h
  exact wpAny_BinOp (binT ha hb I h fun v u s2 x y H2 I2 rx ry q => ho pins s2 σ H2 x y v u Q I2 rx ry q)
theorem pe_un {op : UnaryOp} {r : V → Hp → VK → Prop} (ho : UnR X (unaryOp op) r) (ha : PE X a ta) : PE X (.UnaryOp op a pos) (tUn r ta) := by
  intro pins s σ H Q I h
  exact UnaryOp_ (thn (ha pins s σ H _ I h) fun v s1 ⟨x, H1, I1, r1, q1⟩ => ho pins s1 σ H1 x v Q I1 r1 q1)
/-! ### ints -/
theorem opI {f : Value → Value → Sem Value} {C : Int → Int → Prop} {g : Int → Int → Int}
    (rule : ∀ (i j : Int) (t u : Tok) (s : Shared) (Q : Value → Shared → Prop) (E : Value → Shared → Prop), C i j → Q (.int (g i j) s.toks) { s with toks := s.toks + 1 } → wpAny (model X.prog X.w) X.A (f (.int i t) (.int j u)) Q E s) :
    OpR X f (rI C fun i j => .int (g i j)) := by
  intro pins s σ H x y v u Q I rx ry h
  obtain ⟨i, j, rfl, rfl, hc, q⟩ := h
  obtain ⟨t, rfl⟩ := rx
  obtain ⟨t', rfl⟩ := ry
  exact rule i j t t' s _ _ hc ⟨.int (g i j), H, I.tok _, ⟨_, rfl⟩, q⟩
theorem opI0 {f : Value → Value → Sem Value} {g : Int → Int → Int}
    (rule : ∀ (i j : Int) (t u : Tok) (s : Shared) (Q : Value → Shared → Prop) (E : Value → Shared → Prop), Q (.int (g i j) s.toks) { s with toks := s.toks + 1 } → wpAny (model X.prog X.w) X.A (f (.int i t) (.int j u)) Q E s) :
    OpR X f (rI0 fun i j => .int (g i j)) := by
  intro pins s σ H x y v u Q I rx ry h
  obtain ⟨i, j, rfl, rfl, q⟩ := h
  obtain ⟨t, rfl⟩ := rx
  obtain ⟨t', rfl⟩ := ry
  exact rule i j t t' s _ _ ⟨.int (g i j), H, I.tok _, ⟨_, rfl⟩, q⟩
theorem opB0 {f : Value → Value → Sem Value} {g : Int → Int → Bool}
    (rule : ∀ (i j : Int) (t u : Tok) (s : Shared) (Q : Value → Shared → Prop) (E : Value → Shared → Prop), Q (.bool (g i j)) s → wpAny (model X.prog X.w) X.A (f (.int i t) (.int j u)) Q E s) :
    OpR X f (rI0 fun i j => .bl (g i j)) := by
  intro pins s σ H x y v u Q I rx ry h
  obtain ⟨i, j, rfl, rfl, q⟩ := h
  obtain ⟨t, rfl⟩ := rx
  obtain ⟨t', rfl⟩ := ry
  exact rule i j t t' s _ _ ⟨.bl (g i j), H, I, rfl, q⟩

def CDiv (i j : Int) : Prop := 0 < j ∧ j < 1073741824
def CPow (i j : Int) : Prop := 0 ≤ j ∧ j ≤ 1000000 ∧ i.natAbs < 2 ^ 64
def CMul (i j : Int) : Prop := (-(2 ^ 64) < i ∧ i < 2 ^ 64) ∨ (-(2 ^ 64) < j ∧ j < 2 ^ 64)
theorem CMul.ok {i j : Int} (h : CMul i j) : IntMulOk i j := by
  rcases h with ⟨h1, h2⟩ | ⟨h1, h2⟩
  · exact .of_left (intBits_le_64 h1 h2)
  · exact .of_right (intBits_le_64 h1 h2)
theorem two_pow_nn (k : Nat) : (0 : Int) ≤ 2 ^ k := by
  rw [two_pow_cast]
  exact Int.natCast_nonneg _

theorem op_add : OpR X (binaryOp .Add) (rI0 fun i j => .int (i + j)) := opI0 fun _ _ _ _ _ _ _ q => add_int q
theorem op_sub : OpR X (binaryOp .Sub) (rI0 fun i j => .int (i - j)) := opI0 fun _ _ _ _ _ _ _ q => sub_int q
theorem op_mul : OpR X (binaryOp .Mult) (rI CMul fun i j => .int (i * j)) := opI fun _ _ _ _ _ _ _ hc q => mul_int q hc.ok
/-- // by a positive divisor -/
theorem op_fdiv : OpR X (binaryOp .FloorDiv) (rI CDiv fun i j => .int (i / j)) := opI fun i j _ _ _ _ _ hc q => by
  have h1 : (0 : Int) < j := hc.1
  have h2 : j < 1073741824 := hc.2
  exact floordiv_int (by omega) (by rw [Int.fdiv_eq_ediv_of_nonneg i (by omega)]; exact q) (.inl (PyProof.noPylong_small (by omega)))
/-- % by a positive divisor of any size -/
theorem op_mod : OpR X (binaryOp .Mod) (rI (fun _ j => 0 < j) fun i j => .int (i % j)) := opI fun i j _ _ _ _ _ hc q => by
  have h1 : (0 : Int) < j := hc
  exact mod_int' (by omega) (by rw [Int.fmod_eq_emod_of_nonneg i (by omega)]; exact q)
theorem op_pow : OpR X (binaryOp .Pow) (rI CPow fun i j => .int (i ^ j.toNat)) := opI fun _ _ _ _ _ _ _ hc q => pow_int_small hc.1 hc.2.1 hc.2.2 q
theorem op_shr : OpR X (binaryOp .RShift) (rI (fun _ j => 0 ≤ j) fun i j => .int (i / 2 ^ j.toNat)) := opI fun i j _ _ _ _ _ hc q =>
  rshift_int hc (by rw [Int.fdiv_eq_ediv_of_nonneg i (two_pow_nn _)]; exact q)
theorem op_and : OpR X (binaryOp .BitAnd) (rI0 fun i j => .int (Builtin.bitAnd i j)) := opI0 fun _ _ _ _ _ _ _ q => and_int q
theorem unI {f : Value → Sem Value} {g : Int → Int}
    (rule : ∀ (i : Int) (t : Tok) (s : Shared) (Q : Value → Shared → Prop) (E : Value → Shared → Prop), Q (.int (g i) s.toks) { s with toks := s.toks + 1 } → wpAny (model X.prog X.w) X.A (f (.int i t)) Q E s) :
    UnR X f (rU fun i => .int (g i)) := by
  intro pins s σ H x v Q I rx h
  obtain ⟨i, rfl, q⟩ := h
  obtain ⟨t, rfl⟩ := rx
  exact rule i t s _ _ ⟨.int (g i), H, I.tok _, ⟨_, rfl⟩, q⟩
theorem un_neg : UnR X (unaryOp .USub) (rU fun i => .int (-i)) := unI fun _ _ _ _ _ q => neg_int q
/-! ### bools among ints: n += (a < b) -/
end

/-! ### comparisons -/
/-- the scalars that == tells apart as data does -/
def scal : V → V → Bool
  | .non, .non => true | .non, .int _ => true | .int _, .non => true | .non, .bl _ => true | .bl _, .non => true | .non, .str _ => true | .str _, .non => true
  | .int _, .int _ => true | .bl _, .bl _ => true | .str _, .str _ => true | .byt _, .byt _ => true
  | .int _, .str _ => true | .str _, .int _ => true | .bl _, .str _ => true | .str _, .bl _ => true
  | _, _ => false
def rEq : R2 := fun x y H Q => scal x y = true ∧ Q (.bl (decide (x = y))) H
def rNe : R2 := fun x y H Q => scal x y = true ∧ Q (.bl (!decide (x = y))) H

theorem dec_int {i j : Int} : decide (V.int i = V.int j) = (i == j) := by
  rw [Bool.eq_iff_iff]
  simp
theorem dec_bl {i j : Bool} : decide (V.bl i = V.bl j) = (i == j) := by
  rw [Bool.eq_iff_iff]
  simp
theorem dec_str {i j : Str} : decide (V.str i = V.str j) = (i == j) := by
  rw [Bool.eq_iff_iff]
  simp
theorem dec_byt {i j : Array UInt8} : decide (V.byt i = V.byt j) = (i.toList == j.toList) := by
  rw [Bool.eq_iff_iff]
  cases i
  cases j
  simp

section
variable {X : Cx} {a b c : Expr} {ta tb tc : TE} {pos : Pos}
theorem fin_bl {pins : List (Addr × Obj)} {σ : St} {H : Hp} {s : Shared} {Q : VK} {k k' : Bool} (I : Inv X pins σ H s) (q : Q (.bl k) H) (e : k = k') : EP X pins σ Q (.bool k') s := by
  subst e
  exact ⟨.bl k, H, I, rfl, q⟩
theorem op_eq : OpR X (compareOp .Eq) rEq := by
  intro pins s σ H x y v u Q I rx ry h
  obtain ⟨hs, q⟩ := h
  cases x with
  | non =>
    cases rx
    cases y with
    | non => cases ry; exact PySem.EqNone.eq_none_none (fin_bl I q (by simp))
    | bl j => cases ry; exact PySem.EqNone.eq_none_bool (fin_bl I q (by simp))
    | int j => obtain ⟨t', rfl⟩ := ry; exact PySem.EqNone.eq_none_int (fin_bl I q (by simp))
    | str j => obtain ⟨t', rfl⟩ := ry; exact PySem.EqNone.eq_none_str (fin_bl I q (by simp))
    | _ => exact absurd (show false = true from hs) Bool.false_ne_true
  | bl i =>
    cases rx
    cases y with
    | non => cases ry; exact PySem.EqNone.eq_bool_none (fin_bl I q (by simp))
    | bl j => cases ry; exact eq_bool (fin_bl I q dec_bl)
    | str j => obtain ⟨t', rfl⟩ := ry; exact PySem.EqMixed.eq_bool_str (fin_bl I q (by simp))
    | _ => exact absurd (show false = true from hs) Bool.false_ne_true
  | int i =>
    obtain ⟨t, rfl⟩ := rx
    cases y with
    | non => cases ry; exact PySem.EqNone.eq_int_none (fin_bl I q (by simp))
    | int j => obtain ⟨t', rfl⟩ := ry; exact eq_int (fin_bl I q dec_int)
    | str j => obtain ⟨t', rfl⟩ := ry; exact PySem.EqMixed.eq_int_str (fin_bl I q (by simp))
    | _ => exact absurd (show false = true from hs) Bool.false_ne_true
  | str i =>
    obtain ⟨t, rfl⟩ := rx
    cases y with
    | non => cases ry; exact PySem.EqNone.eq_str_none (fin_bl I q (by simp))
    | bl j => cases ry; exact PySem.EqMixed.eq_str_bool (fin_bl I q (by simp))
    | int j => obtain ⟨t', rfl⟩ := ry; exact PySem.EqMixed.eq_str_int (fin_bl I q (by simp))
    | str j => obtain ⟨t', rfl⟩ := ry; exact eq_str (fin_bl I q dec_str)
    | _ => exact absurd (show false = true from hs) Bool.false_ne_true
  | byt i =>
    obtain ⟨t, rfl⟩ := rx
    cases y with
    | byt j => obtain ⟨t', rfl⟩ := ry; exact PySem.W.eq_bytes (fin_bl I q dec_byt)
    | _ => exact absurd (show false = true from hs) Bool.false_ne_true
  | _ => cases y <;> exact absurd (show false = true from hs) Bool.false_ne_true
theorem op_ne : OpR X (compareOp .NotEq) rNe := by
  intro pins s σ H x y v u Q I rx ry h
  obtain ⟨hs, q⟩ := h
  cases x with
  | non =>
    cases rx
    cases y with
    | non => cases ry; exact PySem.EqNone.ne_none_none (fin_bl I q (by simp))
    | bl j => cases ry; exact PySem.EqNone.ne_none_bool (fin_bl I q (by simp))
    | int j => obtain ⟨t', rfl⟩ := ry; exact PySem.EqNone.ne_none_int (fin_bl I q (by simp))
    | str j => obtain ⟨t', rfl⟩ := ry; exact PySem.EqNone.ne_none_str (fin_bl I q (by simp))
    | _ => exact absurd (show false = true from hs) Bool.false_ne_true
  | bl i =>
    cases rx
    cases y with
    | non => cases ry; exact PySem.EqNone.ne_bool_none (fin_bl I q (by simp))
    | bl j => cases ry; exact ne_bool (fin_bl I q (congrArg not dec_bl))
    | str j => obtain ⟨t', rfl⟩ := ry; exact PySem.EqMixed.ne_bool_str (fin_bl I q (by simp))
    | _ => exact absurd (show false = true from hs) Bool.false_ne_true
  | int i =>
    obtain ⟨t, rfl⟩ := rx
    cases y with
    | non => cases ry; exact PySem.EqNone.ne_int_none (fin_bl I q (by simp))
    | int j => obtain ⟨t', rfl⟩ := ry; exact ne_int (fin_bl I q (congrArg not dec_int))
    | str j => obtain ⟨t', rfl⟩ := ry; exact PySem.EqMixed.ne_int_str (fin_bl I q (by simp))
    | _ => exact absurd (show false = true from hs) Bool.false_ne_true
  | str i =>
    obtain ⟨t, rfl⟩ := rx
    cases y with
    | non => cases ry; exact PySem.EqNone.ne_str_none (fin_bl I q (by simp))
    | bl j => cases ry; exact PySem.EqMixed.ne_str_bool (fin_bl I q (by simp))
    | int j => obtain ⟨t', rfl⟩ := ry; exact PySem.EqMixed.ne_str_int (fin_bl I q (by simp))
    | str j => obtain ⟨t', rfl⟩ := ry; exact ne_str (fin_bl I q (congrArg not dec_str))
    | _ => exact absurd (show false = true from hs) Bool.false_ne_true
  | byt i =>
    obtain ⟨t, rfl⟩ := rx
    cases y with
    | byt j => obtain ⟨t', rfl⟩ := ry; exact PySem.W.ne_bytes (fin_bl I q (congrArg not dec_byt))
    | _ => exact absurd (show false = true from hs) Bool.false_ne_true
  | _ => cases y <;> exact absurd (show false = true from hs) Bool.false_ne_true

theorem op_lt : OpR X (compareOp .Lt) (rI0 fun i j => .bl (decide (i < j))) := opB0 fun _ _ _ _ _ _ _ q => lt_int q
theorem op_le : OpR X (compareOp .LtE) (rI0 fun i j => .bl (decide (i ≤ j))) := opB0 fun _ _ _ _ _ _ _ q => le_int q
theorem op_gt : OpR X (compareOp .Gt) (rI0 fun i j => .bl (decide (j < i))) := opB0 fun _ _ _ _ _ _ _ q => gt_int q
theorem op_ge : OpR X (compareOp .GtE) (rI0 fun i j => .bl (decide (j ≤ i))) := opB0 fun _ _ _ _ _ _ _ q => ge_int q
theorem nomark (b : Expr) {op : CmpOp} (h : op ≠ .In := by decide) (h2 : op ≠ .NotIn := by decide) : behindInMarks op b = false := by
  have e1 : (op == CmpOp.In) = false := by cases op <;> first | rfl | exact absurd rfl h
  have e2 : (op == CmpOp.NotIn) = false := by cases op <;> first | rfl | exact absurd rfl h2
  cases b <;> simp [behindInMarks, e1, e2]
/-- a comparison as a value; hm: nomark b, or (for in, not in) by with_unfolding_all rfl -/
theorem pe_cmpR {op : CmpOp} {r : R2} (ho : OpR X (compareOp op) r) (ha : PE X a ta) (hb : PE X b tb) (hm : behindInMarks op b = false) : PE X (.Compare a [op] [b] pos) (tOp r ta tb) := by
  intro pins s σ H Q I h
  exact wpAny_Compare1 (binT ha hb I h fun v u s2 x y H2 I2 rx ry q => ho pins s2 σ H2 x y v u Q I2 rx ry q) hm
/-- a reading of a value as a test -/
def tTest (t : TE) : TT := fun σ H Q => t σ H fun x H' => ∃ k, x = .bl k ∧ Q k H'
theorem pt_cmpR {op : CmpOp} {r : R2} (ho : OpR X (compareOp op) r) (ha : PE X a ta) (hb : PE X b tb) (hm : behindInMarks op b = false) : PT X (.Compare a [op] [b] pos) (tTest (tOp r ta tb)) := by
  intro pins s σ H Q I h
  refine wpAny_isTrue_Compare1 (thn (ha pins s σ H _ I h) fun v s1 ⟨x, H1, I1, r1, q1⟩ => thn (hb pins s1 σ H1 _ I1 q1) fun u s2 ⟨y, H2, I2, r2, q2⟩ =>
    thn (ho pins s2 σ H2 x y v u _ I2 r1 r2 q2) fun c s3 ⟨z, H3, I3, r3, k, e, q3⟩ => ?_) hm
  subst e
  cases r3
  exact wpAny_truthy_bool ⟨H3, I3, q3⟩
/-- a op1 b op2 c -/
def tChain (r r' : R2) (ta tb tc : TE) : TE := fun σ H Q => ta σ H fun x H1 => tb σ H1 fun y H2 => r x y H2 fun z H3 => ∃ k, z = .bl k ∧
  (if k = true then tc σ H3 fun w' H4 => r' y w' H4 Q else Q (.bl false) H3)
theorem pt_chain {op op' : CmpOp} {r r' : R2} (ho : OpR X (compareOp op) r) (ho' : OpR X (compareOp op') r') (ha : PE X a ta) (hb : PE X b tb) (hc : PE X c tc)
    (hm : lastMarks [op, op'] [b, c] = false := by with_unfolding_all rfl) : PT X (.Compare a [op, op'] [b, c] pos) (tTest (tChain r r' ta tb tc)) := by
  intro pins s σ H Q I h
  refine isTrue_chain (thn (ha pins s σ H _ I h) fun v s1 ⟨x, H1, I1, r1, q1⟩ => test_link (thn (hb pins s1 σ H1 _ I1 q1) fun u s2 ⟨y, H2, I2, r2, q2⟩ =>
    thn (ho pins s2 σ H2 x y v u _ I2 r1 r2 q2) fun d s3 ⟨z, H3, I3, r3, k, e, q3⟩ => ?_)) hm
  subst e
  cases r3
  refine wpAny_truthy_bool ?_
  cases k with
  | false =>
    obtain ⟨k', e', q'⟩ := q3
    cases e'
    exact ite_ff ⟨H3, I3, q'⟩
  | true =>
    refine ite_tt (test_last (thn (hc pins s3 σ H3 _ I3 q3) fun w' s4 ⟨z', H4, I4, r4, q4⟩ => thn (ho' pins s4 σ H4 y z' u w' _ I4 r2 r4 q4) fun d' s5 ⟨z2, H5, I5, r5, k2, e2, q5⟩ => ?_))
    subst e2
    cases r5
    exact wpAny_truthy_bool ⟨H5, I5, q5⟩

/-! ### truth -/
theorem line63 : (sizeLine : Nat) < 2 ^ 63 := by rw [sizeLine_eq]; decide
/-! ### strs and bytes -/
/-! ### scalar builtins, by CallR -/
theorem vals1 {x : V} {us : List Value} (r : Vals [x] us) : ∃ u, us = [u] ∧ RelV x u := by
  cases r with
  | cons r1 r2 => cases r2; exact ⟨_, rfl, r1⟩
theorem vals2 {x y : V} {us : List Value} (r : Vals [x, y] us) : ∃ u w', us = [u, w'] ∧ RelV x u ∧ RelV y w' := by
  cases r with
  | cons r1 r2 =>
    cases r2 with
    | cons r3 r4 => cases r4; exact ⟨_, _, rfl, r1, r3⟩
theorem call_min2 (hc : X.calm = true) : CallR X (.builtin "min") (fun xs H Q => ∃ i j, xs = [.int i, .int j] ∧ Q (.int (if j < i then j else i)) H) := by
  intro pins s σ H xs us Q I r h
  obtain ⟨i, j, rfl, q⟩ := h
  obtain ⟨u, w', rfl, ⟨t, rfl⟩, ⟨t', rfl⟩⟩ := vals2 r
  refine min_two_ints (I.ok.hd hc) fun h' tk k => ⟨_, H, I.kept k, ?_, q⟩
  by_cases hj : j < i
  · rw [if_pos hj, if_pos hj]; exact ⟨_, rfl⟩
  · rw [if_neg hj, if_neg hj]; exact ⟨_, rfl⟩
end
end L2

namespace L2
open PySem PySem.Spec PyProof.Rows

/-! ### an instance, its attributes a map -/
structure ObjM (h : Heap) (x dx C : Addr) (mA : Str → Option Value) : Prop where
  obj : h.get? x = some (PySem.W.instObj C dx)
  ns : h.Ns1 dx mA
  ne : dx ≠ x

theorem lookIn_ns {h : Heap} {dx : Addr} {mA : Str → Option Value} (n : h.Ns1 dx mA) : ∃ od, h.get? dx = some od ∧ ∀ name, PySem.W.lookIn name od = some (mA name) := by
  obtain ⟨o, es, ep, ho, hd, hk, _, hm⟩ := n
  refine ⟨o, ho, fun name => ?_⟩
  have e := hm name
  unfold nsFind findBy at e
  rw [← Array.find?_toList] at e
  unfold PySem.W.lookIn
  rw [hd]
  dsimp only
  split
  · rename_i y q
    rw [q] at e
    exact congrArg some e
  · rename_i q
    rw [q] at e
    have a : es.toList.any (·.refKey) = false := by
      rw [List.any_eq_false]
      intro y hy
      obtain ⟨z, t, hkey⟩ := hk y (Array.mem_toList_iff.mp hy)
      simp [DictEntry.refKey, hkey]
    have a' : ¬ es.toList.any (·.refKey) = true := by rw [a]; exact Bool.false_ne_true
    rw [if_neg a']
    exact congrArg some e

theorem ObjM.look {h : Heap} {x dx C : Addr} {mA : Str → Option Value} (I : ObjM h x dx C mA) : ∃ od, PySem.W.InstAt h x (PySem.W.instObj C dx) C (some od) ∧ ∀ name, PySem.W.lookIn name od = some (mA name) :=
  let ⟨od, ho, hl⟩ := lookIn_ns I.ns
  ⟨od, ⟨I.obj, rfl, rfl, ho⟩, hl⟩

section
variable {prog : Program} {w : World} {A : Around} {E : Value → Shared → Prop} {s : Shared} {K : PySem.W.Frag} {x dx C f : Addr} {mA : Str → Option Value} {name : Str} {v : Value}

end

/-! ### the attributes as a list of pairs -/
section
variable {P : Program} {w : World} {H H' : Hp} {h h' : Heap} {a C dx : Addr} {fs fs' : List (Str × V)}
theorem ins_get (hok : HOk P w H h) (e : H a = some (.ins C dx fs)) : ∃ mA, ObjM h a dx C mA ∧ (∀ f, RelO (fs.lookup f) (mA f)) ∧ PySem.Within mA (fs.map (·.1)) ∧ fs.length ≤ 1000 ∧ H dx = some (.own a) := by
  obtain ⟨d, z, ne, ob, mA, n, r, q⟩ := (show ObjOk P w H h a (.ins C dx fs) from hok a _ e)
  exact ⟨mA, ⟨ob, n, ne⟩, r, q, z, d⟩
end

/-! ### what of the text a class must have -/
structure Cls (K : PySem.W.Frag) (C : Addr) : Prop where
  pg : PySem.W.plainGet K C Str.empty = true
  hd : PySem.W.hasDictIn K C = true
  po : PySem.W.plainOver K C = true
  sa : PySem.W.findIn K (.ref C) "__setattr__" = some (some (.builtin "object.__setattr__"))
theorem Cls.get {K : PySem.W.Frag} {C : Addr} (c : Cls K C) (f : Str) : PySem.W.plainGet K C f = true := c.pg
section
variable {X : Cx} {pins : List (Addr × Obj)} {σ : St} {H : Hp} {s : Shared} {a C dx : Addr} {fs : List (Str × V)} {f : Str} {v : V} {A : Around} {E : Value → Shared → Prop}

end

/-! ### readings and rules -/
section
variable {X : Cx} {o e value : Expr} {f : Str} {pos pos' tpos : Pos} {ta tv : TE}
end

/-! ### isinstance -/
section
variable {X : Cx} {pins : List (Addr × Obj)} {σ : St} {H : Hp} {s : Shared} {A : Around} {E : Value → Shared → Prop} {Q : Value → Shared → Prop} {c : Value} {b : Bool}
/-- the type of a value, as the fragment's deciders take it; for an instance its class -/
inductive TyOf (K : PySem.W.Frag) (H : Hp) : V → Value → Prop where
  | non : TyOf K H .non (.type "NoneType")
  | bl (x : Bool) : TyOf K H (.bl x) (.type "bool")
  | int (i : Int) : TyOf K H (.int i) (.type "int")
  | str (x : Str) : TyOf K H (.str x) (.type "str")
  | flt (x : UInt64) : TyOf K H (.flt x) (.type "float")
  | lst {a : Addr} {xs : List V} (e : H a = some (.lst xs)) : TyOf K H (.ref a) (.type "list")
  | frz {a : Addr} {o : Obj} {xs : List V} (e : H a = some (.frz o (.lst xs))) : TyOf K H (.ref a) (.type "list")
  | tup {a : Addr} {xs : List V} (e : H a = some (.tup xs)) : TyOf K H (.ref a) (.type "tuple")
  | dK {a : Addr} {kvs : List (Key × V)} (e : H a = some (.dK kvs)) : TyOf K H (.ref a) (.type "dict")
  | dT {a : Addr} {kvs : List (List Key × V)} (e : H a = some (.dT kvs)) : TyOf K H (.ref a) (.type "dict")
  | ins {a C dx : Addr} {fs : List (Str × V)} (e : H a = some (.ins C dx fs)) (cl : Cls K C) (ha : PySem.W.findIn K (.ref C) "__class__" = some (some (.builtin "object.__class__")))
      (hn : PySem.W.specialIn K (.builtin "object.__class__") "__get__" = some (some (.builtin "getset_descriptor.__get__"))) (htk : PySem.W.takesIn K (.builtin "object.__class__") = some true)
      (hm : PySem.W.mroIn K C (.type "object") = some true) : TyOf K H (.ref a) (.ref C)
/-- isinstance(x, c) for one class c, a built-in or an own one: kitOne's answer -/
theorem isinst_ok {x : V} {u t : Value} (I : Inv X pins σ H s) (rx : RelV x u) (ty : TyOf X.K H x t) (e : PySem.W.kitOne X.K t c = some b) (h : ∀ tk, Q (.bool b) { s with toks := tk }) :
    wpAny (model X.prog X.w) A (call (.builtin "isinstance") [u, c]) Q E s := by
  cases ty with
  | non => cases (show u = Value.none from rx); exact PySem.W.kia_one PySem.W.kitx_none I.kIn True.intro e (fun z => nomatch z) h
  | bl y => cases (show u = Value.bool y from rx); exact PySem.W.kia_one PySem.W.kitx_bool I.kIn True.intro e (fun z => nomatch z) h
  | int i => obtain ⟨t, q⟩ := (show ∃ t, u = Value.int i t from rx); cases q; exact PySem.W.kia_one PySem.W.kitx_int I.kIn True.intro e (fun z => nomatch z) h
  | str y => obtain ⟨t, q⟩ := (show ∃ t, u = Value.str y t from rx); cases q; exact PySem.W.kia_one PySem.W.kitx_str I.kIn True.intro e (fun z => nomatch z) h
  | flt y => obtain ⟨t, q⟩ := (show ∃ t, u = Value.float y t from rx); cases q; exact PySem.W.kia_one PySem.W.kitx_float I.kIn True.intro e (fun z => nomatch z) h
  | @lst a xs ea =>
    cases (show u = Value.ref a from rx)
    obtain ⟨_, _, n, _, h1⟩ := (show ObjOk X.prog X.w H s.heap a (.lst xs) from I.hok a _ ea)
    exact PySem.W.kia_one PySem.W.kitx_list I.kIn ⟨_, h1, rfl⟩ e (fun z => nomatch z) h
  | @frz a ob xs ea =>
    cases (show u = Value.ref a from rx)
    obtain ⟨_, _, _, n, _, h1⟩ := (show ObjOk X.prog X.w H s.heap a (.frz ob (.lst xs)) from I.hok a _ ea)
    exact PySem.W.kia_one PySem.W.kitx_list I.kIn ⟨_, h1, rfl⟩ e (fun z => nomatch z) h
  | @tup a xs ea =>
    cases (show u = Value.ref a from rx)
    obtain ⟨_, _, _, p⟩ := (show ObjOk X.prog X.w H s.heap a (.tup xs) from I.hok a _ ea)
    obtain ⟨o, h1, h2, _⟩ := p
    exact PySem.W.kia_one PySem.W.kitx_tuple I.kIn ⟨o, h1, h2⟩ e (fun z => nomatch z) h
  | @dK a kvs ea =>
    cases (show u = Value.ref a from rx)
    obtain ⟨_, _, vs, _, p⟩ := (show ObjOk X.prog X.w H s.heap a (.dK kvs) from I.hok a _ ea)
    obtain ⟨o, es, ep, h1, h2, _⟩ := p
    exact PySem.W.kia_one PySem.W.kitx_dict I.kIn ⟨o, h1, h2.1⟩ e (fun z => nomatch z) h
  | @dT a kvs ea =>
    cases (show u = Value.ref a from rx)
    obtain ⟨_, _, xs, _, o, es, ep, h1, h2, _⟩ := (show ObjOk X.prog X.w H s.heap a (.dT kvs) from I.hok a _ ea)
    exact PySem.W.kia_one PySem.W.kitx_dict I.kIn ⟨o, h1, h2.1⟩ e (fun z => nomatch z) h
  | @ins a C dx fs ea cl ha hn htk hm =>
    cases (show u = Value.ref a from rx)
    obtain ⟨mA, O, _⟩ := ins_get I.hok ea
    obtain ⟨od, J, _⟩ := O.look
    exact PySem.W.kia_one (PySem.W.kitx_own (cl.get _) cl.hd ha hn htk hm) I.kIn J e (fun z => nomatch z) h
end
end L2

namespace L2
open PySem PySem.Spec PyProof.Rows

/-! ### room -/
structure Room (k : Nat) (A : Around) : Prop where
  hd : A.handled = none
  dp : A.depth + 3 * k + 5 < recursionLimit
  un : A.units + 16 * k + 200 < cLine
theorem Room.mono {j k : Nat} {A : Around} (r : Room k A) (h : j ≤ k) : Room j A := ⟨r.hd, by have := r.dp; omega, by have := r.un; omega⟩
theorem Room.deeper {k : Nat} {A : Around} (r : Room (k + 1) A) (env : Env) : Room k (A.deeper env) :=
  ⟨r.hd, by have := r.dp; show A.depth + 1 + 3 * k + 5 < _; omega, by have := r.un; show A.units + 3 + 16 * k + 200 < _; omega⟩
theorem Room.depth {k : Nat} {A : Around} (r : Room k A) : A.depth < recursionLimit := by have := r.dp; omega
theorem Room.units {k : Nat} {A : Around} (r : Room k A) : A.units + 64 < cLine := by have := r.un; omega
/-! ### argument lists and displays -/
def tNil : TA := fun _ H Q => Q [] H
def tCons (ta : TE) (tr : TA) : TA := fun σ H Q => ta σ H fun x H1 => tr σ H1 fun xs H2 => Q (x :: xs) H2
section
variable {X : Cx} {e : Expr} {es : List Expr} {te : TE} {t : TA} {pos : Pos}
theorem pa_nil : PA X [] tNil := fun _ _ _ _ H Q I h => Calls.spliced_nil ⟨[], H, I, .nil, h⟩
theorem pa_cons (ha : PE X e te) (hr : PA X es t) (hs : starEach (e :: es) X.env = (false, eval e X.env) :: starEach es X.env := by rfl) : PA X (e :: es) (tCons te t) := by
  intro pos pins s σ H Q I h
  rw [hs]
  show wpAny _ _ (spliced ((false, eval e X.env) :: backTo pos (starEach es X.env))) _ _ s
  refine Calls.spliced_cons (thn (ha pins s σ H _ I h) fun u s1 ⟨x, H1, I1, r1, q1⟩ => ?_)
  exact thn (hr pos pins s1 σ H1 _ I1 q1) fun us s2 ⟨xs, H2, I2, r2, q2⟩ => ⟨x :: xs, H2, I2, .cons r1 r2, q2⟩

/-- a tuple, a list of written items -/
def tTup (t : TA) : TE := fun σ H Q => t σ H fun xs H1 => xs.length ≤ sizeLine ∧ ∀ p, H1 p = none → Q (.ref p) (upd H1 p (.tup xs))
def tLst (t : TA) : TE := fun σ H Q => t σ H fun xs H1 => xs.length ≤ sizeLine ∧ ∀ p, H1 p = none → Q (.ref p) (upd H1 p (.lst xs))
theorem pe_tup {x1} (h : PA X es t) : PE X (.Tuple es x1 pos) (tTup t) := by
  intro pins s σ H Q I hq
  refine wpAny_Tuple_spliced (thn (h pos pins s σ H _ I hq) fun us s1 ⟨xs, H1, I1, r, z, q⟩ => ⟨by rw [← r.length]; exact z, ?_⟩)
  have hf : H1 s1.heap.objs.size = none := I1.hok.fresh (Nat.le_refl _)
  refine ⟨.ref s1.heap.objs.size, upd H1 s1.heap.objs.size (.tup xs), I1.laid (t' := s1.toks) (fun b u e => Heap.get?_push_of_some _ e) (Nat.le_refl _) ?_, rfl, q _ hf⟩
  exact ⟨z, us, r, ⟨_, Heap.get?_push_size _ rfl, rfl, _, rfl⟩⟩
theorem pe_lst (h : PA X es t) : PE X (.List es pos) (tLst t) := by
  intro pins s σ H Q I hq
  refine wpAny_List_spliced (thn (h pos pins s σ H _ I hq) fun us s1 ⟨xs, H1, I1, r, z, q⟩ => ⟨by rw [← r.length]; exact z, ?_⟩)
  have hf : H1 s1.heap.objs.size = none := I1.hok.fresh (Nat.le_refl _)
  refine ⟨.ref s1.heap.objs.size, upd H1 s1.heap.objs.size (.lst xs), I1.laid (t' := s1.toks) (fun b u e => Heap.get?_push_of_some _ e) (Nat.le_refl _) ?_, rfl, q _ hf⟩
  exact ⟨z, us, 0, r, Heap.get?_push_size _ rfl⟩
end

/-! ### what a def promises -/
/-- a def's promise: the bound arguments in the parameters' order, the heap, the wanted end, the wanted exception -/
abbrev Sp := List V → Hp → VK → XK → Prop
/-- how an exception lies behind a call (file 08 gives it): the callers' frames, abstract heap and state ahead of the call, the wish, the exception, the state -/
abbrev CXT := List Env → Hp → Shared → XK → Value → Shared → Prop

/-- the state at a call -/
structure Env0 (P : Program) (w : World) (K : PySem.W.Frag) (mg : Str → Option Value) (base : Heap) (A : Around) (outer : List Env) (s : Shared) (H : Hp) : Prop where
  frames : A.frames = some outer
  mod : Mod K mg base
  bs : ∀ b o, base.get? b = some o → s.heap.get? b = some o ∧ H b = none
  bsz : base.objs.size ≤ s.heap.objs.size
  funs : s.heap.FunFrames base outer
  frf : ∀ b ∈ frs outer, H b = none
  hok : HOk P w H s.heap
  bare : AllBare s.gens
/-- a call's end -/
def CE (outer : List Env) (P : Program) (w : World) (H : Hp) (s : Shared) (Q : VK) (u : Value) (s' : Shared) : Prop :=
  ∃ v H', s'.os = s.os ∧ AllBare s'.gens ∧ Un (frs outer) [] H H' s.heap s'.heap ∧ HOk P w H' s'.heap ∧ RelV v u ∧ Q v H'
def CR (CX : CXT) (outer : List Env) (P : Program) (w : World) (H : Hp) (s : Shared) (Q : VK) (E : XK) (r : Result) (s' : Shared) : Prop :=
  match r with
  | .ok (.ret u) => CE outer P w H s Q u s'
  | .ok _ => False
  | .error e => CX outer H s E e s'
structure FnOk (P : Program) (w : World) (K : PySem.W.Frag) (mg : Str → Option Value) (base : Heap) (CX : CXT) (k : Nat) (f : Addr) (fd : FuncData) (ps : List Str) (sp : Sp) : Prop where
  len : ∀ vs H Q E, sp vs H Q E → vs.length = ps.length
  run : ∀ (A : Around) (outer : List Env) (s : Shared) (H : Hp) (args : Args) (us : List Value) (vs : List V) (Q : VK) (E : XK), Room k A → Env0 P w K mg base A outer s H → BindsTo s fd args (ps.zip us) → Vals vs us → sp vs H Q E →
    codeAny (model P w) A (.call (.ref f) args) (CR CX outer P w H s Q E) s
theorem FnOk.mono {P : Program} {w : World} {K : PySem.W.Frag} {mg : Str → Option Value} {base : Heap} {CX : CXT} {j k : Nat} {f : Addr} {fd : FuncData} {ps : List Str} {sp : Sp} (F : FnOk P w K mg base CX j f fd ps sp) (h : j ≤ k) :
    FnOk P w K mg base CX k f fd ps sp := ⟨F.len, fun A outer s H args us vs Q E hr => F.run A outer s H args us vs Q E (hr.mono h)⟩
section
variable {X : Cx} {pins : List (Addr × Obj)} {σ : St} {H : Hp} {s s' : Shared}
/-- from a body: what a callee wants -/
theorem Inv.env0 (I : Inv X pins σ H s) : Env0 X.prog X.w X.K X.mg X.base X.A X.stack s H :=
  ⟨I.ok.frames, I.ok.mod, I.bs, Nat.le_trans I.ok.bsz I.sz, I.stack, I.stkFree, I.hok, I.bare⟩
/-- behind a call -/
theorem Inv.after {Q : VK} {u : Value} (I : Inv X pins σ H s) (h : CE X.stack X.prog X.w H s Q u s') : EP X pins σ Q u s' := by
  obtain ⟨v, H', os, bare, un, hok, r, q⟩ := h
  obtain ⟨hh, g, d, t, os'⟩ := s'
  obtain rfl : os' = s.os := os
  exact ⟨v, H', I.call (h' := hh) (g' := g) (d' := d) (t' := t) (ch := []) un hok bare (fun b z => absurd z (by simp)), r, q⟩
end

/-! ### calls -/
/-- f(..): the written arguments, then the defaults dvs; E: what is wanted of an exception -/
def tCall (sp : Sp) (dvs : List V) (E : XK) (t : TA) : TE := fun σ H Q => t σ H fun vs H1 => sp (vs ++ dvs) H1 Q E
/-- how the parameters are bound: us the positional arguments, kw the keywords' values by name, ds the defaults that fill up -/
def Binds (K : PySem.W.Frag) (fd : FuncData) (ps : List Str) (ds : List Value) : Prop :=
  ∀ (s : Shared) (us : List Value), K.In s.heap → (us ++ ds).length = ps.length → BindsTo s fd ⟨us, []⟩ (ps.zip (us ++ ds))
/-- every parameter is given -/
theorem Binds.all {K : PySem.W.Frag} {fd : FuncData} {ps : List Str} (h : ∀ us : List Value, us.length = ps.length → bindArgs fd ⟨us, []⟩ = pure (ps.zip us)) : Binds K fd ps [] := fun s us _ hl => by
  rw [List.append_nil] at hl ⊢
  exact .of_eq (h us hl)

/-- an exception of a callee reaches what this body wants of exceptions -/
def Passes (CX : CXT) (X : Cx) (E : XK) : Prop := ∀ (pins : List (Addr × Obj)) (σ : St) (H : Hp) (s : Shared) (e : Value) (s' : Shared), Inv X pins σ H s → CX X.stack H s E e s' → X.xe e s'

section
variable {X : Cx} {CX : CXT} {k : Nat} {f C : Addr} {fd : FuncData} {ps : List Str} {sp : Sp} {dvs : List V} {ds : List Value} {E : XK} {x m : Str} {p pos apos : Pos} {e o : Expr} {es : List Expr} {ta : TE} {t : TA}

/-- the callee runs -/
theorem run_fn {pins : List (Addr × Obj)} {σ : St} {H : Hp} {s : Shared} {Q : VK} {us : List Value} {vs : List V} (F : FnOk X.prog X.w X.K X.mg X.base CX k f fd ps sp) (hr : Room k X.A) (hb : Binds X.K fd ps ds) (hd : Vals dvs ds) (hx : Passes CX X E)
    (I : Inv X pins σ H s) (r : Vals vs us) (h : sp (vs ++ dvs) H Q E) : wpAny (model X.prog X.w) X.A (call (.ref f) us) (EP X pins σ Q) X.xe s := by
  have r2 : Vals (vs ++ dvs) (us ++ ds) := r.append hd
  have hl : (us ++ ds).length = ps.length := by rw [← r2.length]; exact F.len _ _ _ _ h
  refine wpAny_call (codeAny_mono (F.run X.A X.stack s H ⟨us, []⟩ (us ++ ds) (vs ++ dvs) Q E hr I.env0 (hb s us I.kIn hl) r2 h) fun r s' hq => ?_)
  cases r with
  | error e => exact hx pins σ H s e s' I hq
  | ok fl =>
    cases fl with
    | ret u => exact I.after hq
    | next => exact False.elim hq
    | brk => exact False.elim hq
    | cont => exact False.elim hq

theorem pe_call (F : FnOk X.prog X.w X.K X.mg X.base CX k f fd ps sp) (hr : Room k X.A) (hg : Gl X x) (hm : X.mg x = some (.ref f)) (hk : PySem.W.keepIn X.K (.ref f) = true) (hb : Binds X.K fd ps ds) (hd : Vals dvs ds) (hx : Passes CX X E)
    (ha : PA X (e :: es) t) (hdb : (x == ("__debug__" : Str)) = false := by decide) (he : starEach (e :: es) X.env = (false, eval e X.env) :: starEach es X.env := by rfl) (hpl : (backTo pos (starEach es X.env)).any (·.1) = false := by rfl) :
    PE X (.Call (.Name x p) (e :: es) [] pos) (tCall sp dvs E t) := by
  intro pins s σ H Q I h
  refine wpAny_Call_Name_kw (ld_glob I hg hm ?_ hdb)
  refine PySem.W.callWith_K (h₀ := X.base) I.ok.mod.kin hk (thn (ha pos pins s σ H _ I h) fun us s1 ⟨vs, H1, I1, r, q⟩ => ⟨I1.kIn, ?_⟩) he hpl
  exact run_fn F hr hb hd hx I1 r q
end

/-! ### keywords -/
section
variable {X : Cx} {CX : CXT} {k : Nat} {f C : Addr} {fd : FuncData} {ps ks : List Str} {sp : Sp} {E : XK} {x m : Str} {p pos apos kpos : Pos} {e o : Expr} {es : List Expr} {kws : List Keyword} {te ta : TE} {t tk : TA} {nm : Option Str}
variable {g : List Value → List Value → List Value} {gV : List V → List V → List V}
end

/-! ### a def's body keeps its promise -/
/-- names: the parameters first -/
structure FnScope (N P : List Str) (sc : Scope) : Prop where
  kind : sc.kind = .function
  co : sc.isCoroutine = false
  gen : sc.isGenerator = false
  nd : N.Nodup
  pre : N.take P.length = P
  par : ∀ x ∈ P, sc.names.lookup x = some .local ∨ sc.names.lookup x = some .cell
  nofree : ∀ y ∈ sc.names, y.2 ≠ .free

theorem bindL_out {kindOf : Str → Option NameKind} {x : Str} : ∀ {binds : List (Str × Value)} {m : Str → Option Value}, (∀ v, (x, v) ∉ binds) → bindL kindOf binds m x = m x
  | [], _, _ => rfl
  | (n, v) :: r, m, h => by
    unfold bindL
    rw [bindL_out fun w hw => h w (List.mem_cons_of_mem _ hw)]
    split
    · have : x ≠ n := by rintro rfl; exact h v List.mem_cons_self
      simp [this]
    · rfl
theorem bindC_out {kindOf : Str → Option NameKind} {x : Str} : ∀ {binds : List (Str × Value)} {m : Str → Option Value}, (∀ v, (x, v) ∉ binds) → bindC kindOf binds m x = m x
  | [], _, _ => rfl
  | (n, v) :: r, m, h => by
    unfold bindC
    rw [bindC_out fun w hw => h w (List.mem_cons_of_mem _ hw)]
    split
    · rfl
    · have : x ≠ n := by rintro rfl; exact h v List.mem_cons_self
      simp [this]
theorem bindL_get {kindOf : Str → Option NameKind} {x : Str} {v : Value} : ∀ {P : List Str} {vs : List Value} {i : Nat} {m : Str → Option Value}, P.Nodup → P[i]? = some x → vs[i]? = some v → kindOf x = some .local →
    bindL kindOf (P.zip vs) m x = some v
  | [], _, _, _, _, h, _, _ => by simp at h
  | _ :: _, [], _, _, _, _, h, _ => by simp at h
  | p :: P, w :: vs, 0, m, nd, h1, h2, hk => by
    simp at h1 h2; subst h1; subst h2
    show bindL kindOf ((p, w) :: P.zip vs) m p = _
    unfold bindL
    rw [bindL_out fun v hv => (List.nodup_cons.mp nd).1 (List.of_mem_zip hv).1, if_pos hk]
    simp
  | p :: P, w :: vs, i + 1, m, nd, h1, h2, hk => by
    show bindL kindOf ((p, w) :: P.zip vs) m x = _
    unfold bindL
    exact bindL_get (i := i) (List.nodup_cons.mp nd).2 (by simpa using h1) (by simpa using h2) hk
theorem bindC_get {kindOf : Str → Option NameKind} {x : Str} {v : Value} : ∀ {P : List Str} {vs : List Value} {i : Nat} {m : Str → Option Value}, P.Nodup → P[i]? = some x → vs[i]? = some v → kindOf x ≠ some .local →
    bindC kindOf (P.zip vs) m x = some v
  | [], _, _, _, _, h, _, _ => by simp at h
  | _ :: _, [], _, _, _, _, h, _ => by simp at h
  | p :: P, w :: vs, 0, m, nd, h1, h2, hk => by
    simp at h1 h2; subst h1; subst h2
    show bindC kindOf ((p, w) :: P.zip vs) m p = _
    unfold bindC
    rw [bindC_out fun v hv => (List.nodup_cons.mp nd).1 (List.of_mem_zip hv).1, if_neg hk]
    simp
  | p :: P, w :: vs, i + 1, m, nd, h1, h2, hk => by
    show bindC kindOf ((p, w) :: P.zip vs) m x = _
    unfold bindC
    exact bindC_get (i := i) (List.nodup_cons.mp nd).2 (by simpa using h1) (by simpa using h2) hk

/-- the names' values at the entry -/
def start (N : List Str) (vs : List V) : St := vs.map some ++ List.replicate (N.length - vs.length) none

/-- the context of a def's body, at its entry; an exception leaves the frame, then lies as CX says -/
def cxOf (CX : CXT) (P : Program) (w : World) (K : PySem.W.Frag) (mg : Str → Option Value) (base : Heap) (N : List Str) (qual : Str) (scope : Scope) (f : Addr) (cd : Value) (A : Around) (outer : List Env) (s : Shared) (H : Hp) (E : XK) : Cx where
  prog := P
  w := w
  K := K
  mg := mg
  base := base
  A := A.deeper (envOfC qual scope s.heap.objs.size f cd)
  N := N
  s₀ := s
  H₀ := H
  env := envOfC qual scope s.heap.objs.size f cd
  outer := outer
  stack := envOfC qual scope s.heap.objs.size f cd :: outer
  ex := []
  calm := true
  fn := fun _ => true
  pn := []
  xe := fun e s' => wpAny (model P w) (A.deeper (envOfC qual scope s.heap.objs.size f cd)) (leaving (envOfC qual scope s.heap.objs.size f cd) e) (fun _ s'' => CX outer H s E e s'') (fun e' s'' => CX outer H s E e' s'') s'

theorem cell_has {sc : Scope} {n : Nat} {x : Str} (h : sc.names.lookup x = some .cell) : ∃ c, (cellsFrom n sc.names []).lookup x = some c := by
  have q := PySem.W.cellsFrom_some sc.names n [] (.inl h)
  exact Option.isSome_iff_exists.mp q

theorem inv_start {CX : CXT} {P : Program} {w : World} {K : PySem.W.Frag} {mg : Str → Option Value} {base : Heap} {N ps : List Str} {qual : Str} {scope : Scope} {f : Addr} {cd : Value} {A : Around} {outer : List Env} {s s1 : Shared} {H : Hp} {E : XK} {us : List Value} {vs : List V}
    (S : FnScope N ps scope) (hd : A.handled = none) (e0 : Env0 P w K mg base A outer s H) (hl : vs.length = ps.length) (r : Vals vs us)
    (x : InCallC s s.heap.objs.size (bindL (envOfC qual scope s.heap.objs.size f cd).kindOf (ps.zip us) fun _ => none) (cellsFrom (s.heap.objs.size + 1) scope.names []) (bindC (envOfC qual scope s.heap.objs.size f cd).kindOf (ps.zip us) fun _ => none) s1) :
    Inv (cxOf CX P w K mg base N qual scope f cd A outer s H E) [] (start N vs) H s1 := by
  have hpl : ps.length ≤ N.length := by have := congrArg List.length S.pre; rw [List.length_take] at this; omega
  obtain ⟨h1, tk, rfl, hk⟩ := x.done
  have noA : ∀ b : Addr, b ∉ (cxOf CX P w K mg base N qual scope f cd A outer s H E).ex := fun b z => absurd (show b ∈ ([] : List Addr) from z) (by simp)
  refine ⟨⟨e0.mod, S.kind, rfl, rfl, Nat.le_refl _, fun y z c h1 h2 => ?_, fun y hy => ?_, fun y c _ h => ?_, fun _ => hd, Around.frames_deeper e0.frames, .inr ⟨rfl, rfl⟩, fun b z => absurd z (noA b), e0.bs, e0.bsz, fun b _ _ => noA b, fun b z => absurd z (noA b), e0.funs, e0.frf⟩,
    rfl, e0.bare, Un.kept hk, ⟨_, x.toInCall.ns, fun i y v h1 h2 h3 => ?_⟩, fun y c h => ⟨_, x.cell y c h⟩, e0.hok.fresh (Nat.le_refl _), fun y c h => ?_, fun p hp => absurd (show p ∈ ([] : List (Addr × Obj)) from hp) (by simp), e0.hok.kept hk, ?_⟩
  · exact name_of_addr x.apart (PySem.mem_of_lookup h1) (PySem.mem_of_lookup h2)
  · have hy : scope.names.lookup y = some .cell ∨ scope.names.lookup y = some .free := hy
    rcases hy with hy | hy
    · exact cell_has hy
    · exact absurd rfl (S.nofree _ (PySem.mem_of_lookup hy))
  · exact Nat.le_of_lt (x.above y c (PySem.mem_of_lookup h))
  · have hi : i < vs.length := by
      unfold start at h2
      by_cases hi : i < vs.length
      · exact hi
      · rw [List.getElem?_append_right (by simpa using hi)] at h2
        rw [List.getElem?_replicate] at h2
        split at h2 <;> cases h2
    have ha : vs[i]? = some v := by
      unfold start at h2
      rw [List.getElem?_append_left (by simpa using hi), List.getElem?_map] at h2
      cases e : vs[i]? with
      | none => rw [e] at h2; cases h2
      | some a => rw [e] at h2; cases h2; rfl
    obtain ⟨u, hu, rv⟩ := r.get ha
    have hp : ps[i]? = some y := by
      rw [← S.pre, List.getElem?_take_of_lt (by omega)]; exact h1
    have ndP : ps.Nodup := by rw [← S.pre]; exact S.nd.sublist (List.take_sublist _ _)
    refine ⟨u, rv, ?_⟩
    rcases S.par y (List.mem_of_getElem? hp) with k | k
    · exact .inl ⟨k, bindL_get ndP hp hu k⟩
    · obtain ⟨c, e⟩ := cell_has (n := s.heap.objs.size + 1) k
      refine .inr ⟨.inl k, c, e, ?_⟩
      have q := x.cell y c e
      rw [bindC_get ndP hp hu (by show scope.names.lookup y ≠ _; rw [k]; decide)] at q
      exact q
  · exact e0.hok.fresh (Nat.le_of_lt (x.above y c (PySem.mem_of_lookup h)))
  · unfold start
    show _ = N.length
    rw [List.length_append, List.length_map, List.length_replicate]
    omega

/-- THE RULE: a def (or a method) of the text, by its body. The body's reading t is chosen for each entry; it is run at the parameters' values -/
theorem fn_of {CX : CXT} {P : Program} {w : World} {K : PySem.W.Frag} {mg : Str → Option Value} {base : Heap} {k : Nat} {f : Addr} {name qual : Str} {params : Arguments} {body : List Stmt} {scope : Scope} {dV kV doc pm cdv ct oc : Value} {an od : Option Addr}
    {osl : Array (Option Value)} {N ps : List Str} {sp : Sp} (lk : K.lookup f = some ⟨oc, od, .func (PySem.W.fnOf name qual params body scope dV kV doc pm an cdv ct), osl⟩) (hcd : PySem.W.codeIn K cdv qual = true) (S : FnScope N ps scope)
    (len : ∀ vs H Q E, sp vs H Q E → vs.length = ps.length)
    (hbody : ∀ (A : Around) (outer : List Env) (s : Shared) (H : Hp) (vs : List V) (Q : VK) (E : XK), Room k (A.deeper (envOfC qual scope s.heap.objs.size f cdv)) → sp vs H Q E →
      ∃ t, PSs (cxOf CX P w K mg base N qual scope f cdv A outer s H E) body t ∧ t { nx := fun _ H' => Q .non H', rt := Q } (start N vs) H) :
    FnOk P w K mg base CX (k + 1) f (PySem.W.fnOf name qual params body scope dV kV doc pm an cdv ct) ps sp := by
  refine ⟨len, fun A outer s H args us vs Q E hr e0 hb r hsp => ?_⟩
  have hl := len _ _ _ _ hsp
  have KX : K.In s.heap := e0.mod.kin.keeps fun b o e => (e0.bs b o e).1
  have lim : s.heap.NoLimit := e0.mod.nolimit.keeps fun b o e => (e0.bs b o e).1
  have hkind : ∀ y ∈ ps.zip us, scope.names.lookup y.1 = some .local ∨ (scope.names.lookup y.1 = some .cell ∧ ((cellsFrom (s.heap.objs.size + 1) scope.names []).lookup y.1).isSome = true) := fun ⟨n, v⟩ hy => by
    rcases S.par n (List.of_mem_zip hy).1 with q | q
    · exact .inl q
    · exact .inr ⟨q, PySem.W.cellsFrom_some _ _ _ (.inl q)⟩
  refine codeAny_call_function hr.depth (KX _ _ lk) rfl S.co S.gen rfl (PySem.W.codeRec_of KX hcd) (hb _ _ _ _ ?_)
  refine wpAny_newFunctionEnv_cells S.kind hkind fun env he s1 x => ?_
  subst he
  refine ⟨lim.keeps x.toInCall.keep, codeAny_func ?_⟩
  obtain ⟨t, ht, hq⟩ := hbody A outer s H vs Q E (hr.deeper _) hsp
  have I : Inv (cxOf CX P w K mg base N qual scope f cdv A outer s H E) [] (start N vs) H s1 := inv_start S hr.hd e0 hl r x
  refine wpAny_mono (ht [] s1 (start N vs) H _ I hq) (fun fl s' hs => ?_) fun e s' hs => hs
  have fin : ∀ {σ' : St} {H' : Hp} {v : V} {u : Value}, Inv (cxOf CX P w K mg base N qual scope f cdv A outer s H E) [] σ' H' s' → RelV v u → Q v H' → CE outer P w H s Q u s' :=
    fun {σ' H' v u} J rv q => ⟨v, H', J.os, J.bare, J.base, J.hok, rv, q⟩
  cases fl with
  | ret u =>
    obtain ⟨v, σ', H', J, rv, q⟩ := hs
    exact fin J rv q
  | next =>
    obtain ⟨σ', H', J, q⟩ := hs
    exact fin (v := V.non) (u := Value.none) J rfl q
  | brk =>
    obtain ⟨_, _, _, q⟩ := hs
    exact False.elim q
  | cont =>
    obtain ⟨_, _, _, q⟩ := hs
    exact False.elim q
end L2

namespace L2
open PySem PySem.Spec PyProof.Rows
section
variable {X : Cx} {x : Str} {p pos : Pos} {e : Expr} {es : List Expr} {t : TA} {id T : String} {r : List V → Hp → VK → Prop}

def tCB (r : List V → Hp → VK → Prop) (t : TA) : TE := fun σ H Q => t σ H fun vs H1 => r vs H1 Q
/-- f(e, ..), f a built-in function -/
theorem pe_callB (hc : CallR X (.builtin id) r) (hg : Gl X x) (hm : X.mg x = none) (hv : bootBuiltins x = some (.builtin id)) (ha : PA X (e :: es) t) (hn : x ≠ "__name__" := by decide) (hdb : (x == ("__debug__" : Str)) = false := by decide)
    (he : starEach (e :: es) X.env = (false, eval e X.env) :: starEach es X.env := by rfl) (hpl : (backTo pos (starEach es X.env)).any (·.1) = false := by rfl) : PE X (.Call (.Name x p) (e :: es) [] pos) (tCB r t) := by
  intro pins s σ H Q I h
  refine wpAny_Call_Name_kw (ld_blt I hg hm hv ?_ hn hdb)
  exact PyProof.Rows.callWith_builtin1 (thn (ha pos pins s σ H _ I h) fun us s1 ⟨vs, H1, I1, r1, q1⟩ => hc pins s1 σ H1 vs us Q I1 r1 q1) he hpl
/-- T(e, ..), T a built-in type -/
theorem pe_callTy (hc : CallR X (.type T) r) (hg : Gl X x) (hm : X.mg x = none) (hv : bootBuiltins x = some (.type T)) (ha : PA X (e :: es) t) (hn : x ≠ "__name__" := by decide) (hdb : (x == ("__debug__" : Str)) = false := by decide)
    (he : starEach (e :: es) X.env = (false, eval e X.env) :: starEach es X.env := by rfl) (hpl : (backTo pos (starEach es X.env)).any (·.1) = false := by rfl) : PE X (.Call (.Name x p) (e :: es) [] pos) (tCB r t) := by
  intro pins s σ H Q I h
  refine wpAny_Call_Name_kw (ld_blt I hg hm hv ?_ hn hdb)
  exact PyProof.Rows.callWith_type1 (thn (ha pos pins s σ H _ I h) fun us s1 ⟨vs, H1, I1, r1, q1⟩ => hc pins s1 σ H1 vs us Q I1 r1 q1) he hpl
end
end L2

namespace HT
open PySem PyProof.Rows

section
open PySem.SeqAt
open PySem.AutoSeq1 (wpAny_loadPart')
open PySem.MeetsSeq PySem.MeetsSeq2 PySem.MeetsSeq3

end

section
variable {prog : Program} {w : World} {A : Around} {E : Value → Shared → Prop} {s : Shared}

/-! ### t[a:b], not the whole -/
/-- a slice's bound as a place among n (d where it is left out) -/
def sIx (n d : Nat) : Option Int → Nat
  | none => d
  | some v => if v < 0 then (v + (n : Int)).toNat else min v.toNat n
theorem sIx_none (n d : Nat) : sIx n d none = d := rfl
theorem sIx_nat (n d k : Nat) : sIx n d (some (k : Int)) = min k n := by
  show (if (k : Int) < 0 then ((k : Int) + (n : Int)).toNat else min (k : Int).toNat n) = min k n
  rw [if_neg (by omega), Int.toNat_natCast]
theorem sIx_le (n d : Nat) (hd : d ≤ n) (o : Option Int) : sIx n d o ≤ n := by
  cases o with
  | none => exact hd
  | some v =>
    show (if v < 0 then (v + (n : Int)).toNat else min v.toNat n) ≤ n
    by_cases hv : v < 0
    · rw [if_pos hv]; omega
    · rw [if_neg hv]; exact Nat.min_le_right _ _
theorem clip_eq (v : Int) (n d : Nat) : (if v < 0 then max (v + (n : Int)) 0 else min v (n : Int)) = ((sIx n d (some v) : Nat) : Int) := by
  show (if v < 0 then max (v + (n : Int)) 0 else min v (n : Int)) = (((if v < 0 then (v + (n : Int)).toNat else min v.toNat n) : Nat) : Int)
  by_cases hv : v < 0
  · simp only [if_pos hv]; omega
  · simp only [if_neg hv]; omega
theorem adjust_gen (lo hi : Option Int) (n : Nat) : Builtin.Slice.sliceAdjust lo hi 1 (n : Int) = (((sIx n 0 lo : Nat) : Int), ((sIx n n hi : Nat) : Int)) := by
  have h1 : ¬ ((1 : Int) < 0) := by omega
  unfold Builtin.Slice.sliceAdjust
  simp only [h1, if_false]
  refine Prod.ext ?_ ?_
  · cases lo with
    | none => rfl
    | some v => exact clip_eq v n 0
  · cases hi with
    | none => rfl
    | some v => exact clip_eq v n n
theorem places_gen (i j : Nat) : Builtin.Slice.slicePlaces (i : Int) (j : Int) 1 = j - i := by
  unfold Builtin.Slice.slicePlaces
  have h1 : (1 : Int) > 0 := by omega
  simp only [h1, if_true, Int.ediv_one]
  split <;> omega
theorem slicePart_ {v : Value} {o : Option Int} {Q : Option Int → Shared → Prop} (p : IsPart v o) (h : Q o s) : wpAny (model prog w) A (Builtin.Slice.slicePartIndex v) Q E s := by
  cases p with
  | none => exact slicePart_none h
  | int i t => exact slicePart_int h
theorem sliceApplied_gen {sl : Addr} {vl vu : Value} {lo hi : Option Int} {n : Nat} {Q : Int × Int × Nat → Shared → Prop} (hs : s.heap.IsSliceOf sl vl vu .none) (pl : IsPart vl lo) (pu : IsPart vu hi)
    (h : Q (((sIx n 0 lo : Nat) : Int), 1, sIx n n hi - sIx n 0 lo) s) : wpAny (model prog w) A (Builtin.Slice.sliceApplied (.ref sl) (pure (n : Int))) Q E s := by
  obtain ⟨os, hos, hcs, hds⟩ := id hs
  unfold Builtin.Slice.sliceApplied Builtin.Slice.sliceFields
  refine wpAny_bind (wpAny_bind (wpAny_field hos hds (x := vl) rfl (wpAny_bind (wpAny_field hos hds (x := vu) rfl (wpAny_bind (wpAny_field hos hds (x := .none) rfl (wpAny_pure ?_)))))))
  refine wpAny_bind (slicePart_none ?_)
  show wpAny _ _ (if ((1 : Int) == 0) = true then _ else _) _ _ s
  rw [if_neg (by decide)]
  refine wpAny_bind (slicePart_ pl (wpAny_bind (slicePart_ pu (wpAny_bind (wpAny_pure ?_)))))
  show wpAny _ _ (match Builtin.Slice.sliceAdjust lo hi 1 (n : Int) with | (lo, hi) => pure (lo, (1 : Int), Builtin.Slice.slicePlaces lo hi 1)) _ _ s
  rw [adjust_gen lo hi n]
  show wpAny _ _ (pure (((sIx n 0 lo : Nat) : Int), (1 : Int), Builtin.Slice.slicePlaces ((sIx n 0 lo : Nat) : Int) ((sIx n n hi : Nat) : Int) 1)) _ _ s
  rw [places_gen]
  exact wpAny_pure h
theorem pick_gen (xs : Array Value) (i k : Nat) : ((List.range k).filterMap fun (m : Nat) => xs[((i : Int) + (m : Int) * 1).toNat]?).toArray = ((xs.toList.drop i).take k).toArray := by
  have e : (fun (m : Nat) => xs[((i : Int) + (m : Int) * 1).toNat]?) = fun m => xs[i + m]? := by
    funext m
    have : ((i : Int) + (m : Int) * 1).toNat = i + m := by omega
    rw [this]
  rw [e]
  have := pick_run xs i k
  rw [List.filterMap_map] at this
  have e2 : ((fun x => xs[x]?) ∘ fun x => i + x) = fun m => xs[i + m]? := rfl
  rw [e2] at this
  rw [this]

theorem getItem_tuple_cut {t sl : Addr} {items : Array Value} {vl vu : Value} {lo hi : Option Int} {Q : Value → Shared → Prop} (ht : IsTup s.heap t items) (hs : s.heap.IsSliceOf sl vl vu .none) (pl : IsPart vl lo) (pu : IsPart vu hi)
    (hw : ¬ (sIx items.size 0 lo = 0 ∧ sIx items.size items.size hi = items.size))
    (h : Q (.ref s.heap.objs.size) { s with heap := s.heap.push { cls := .type "tuple", data := .seq ((items.toList.drop (sIx items.size 0 lo)).take (sIx items.size items.size hi - sIx items.size 0 lo)).toArray } })
    (hsz : items.size ≤ sizeLine) : wpAny (model prog w) A (getItem (.ref t) (.ref sl)) Q E s := by
  have htake : sizeOk (.seq ((items.toList.drop (sIx items.size 0 lo)).take (sIx items.size items.size hi - sIx items.size 0 lo)).toArray) := by
    show ((items.toList.drop (sIx items.size 0 lo)).take (sIx items.size items.size hi - sIx items.size 0 lo)).toArray.size ≤ sizeLine
    rw [List.size_toArray, List.length_take, List.length_drop, Array.length_toList]
    omega
  have hj : sIx items.size items.size hi ≤ items.size := sIx_le _ _ (Nat.le_refl _) hi
  obtain ⟨os, hos, hcs, hds⟩ := id hs
  have hTs : s.TypeIs (.ref sl) "slice" := ⟨os, hos, hcs⟩
  unfold getItem
  try with_reducible refine wpAny_holding ?_
  first | refine wpAny_bind (wpAny_pure ?_) | skip
  refine wpAny_bind (wpAny_sequenceKey ht.typeIs (by decide) ?_)
  refine wpAny_bind (wpAny_callSpecial?_slot (name := Str.ofString "__getitem__") ht.typeIs PyProof.Rows.slot_tuple_getitem
    (wpAny_call_entry PyProof.Rows.slot_tuple_getitem ht.typeIs entry_tuple_getitem ?_ (args_tuple_getitem _ _)))
  show wpAny _ _ (Builtin.Tuple.tupleItemsOf (.ref t) >>= _) _ _ s
  refine wpAny_bind (tupleItemsOf_ ht ?_)
  refine wpAny_bind (wpAny_typeOf hTs ?_)
  rw [if_pos (by decide)]
  refine wpAny_bind (sliceApplied_gen hs pl pu ?_)
  have hno : ¬ ((((sIx items.size 0 lo : Nat) : Int) == 0 && (1 : Int) == 1 && (sIx items.size items.size hi - sIx items.size 0 lo) == items.size) = true) := by
    intro q
    rw [Bool.and_eq_true, Bool.and_eq_true] at q
    have q1 : ((sIx items.size 0 lo : Nat) : Int) = 0 := eq_of_beq q.1.1
    have q2 : sIx items.size items.size hi - sIx items.size 0 lo = items.size := eq_of_beq q.2
    exact hw ⟨by omega, by omega⟩
  show wpAny _ _ (if (((sIx items.size 0 lo : Nat) : Int) == 0 && (1 : Int) == 1 && (sIx items.size items.size hi - sIx items.size 0 lo) == items.size) = true then _ else _) _ _ s
  rw [if_neg hno, pick_gen]
  first
    | exact wpAny_bind (m := Builtin.Tuple.tupleExact _) (wpAny_newObj_type (wpAny_pure ⟨_, rfl, wpAny_pure h⟩) htake)
    | exact wpAny_bind (m := Builtin.Tuple.tupleExact _) (wpAny_newObj_type (wpAny_bind (wpAny_pure (wpAny_pure ⟨_, rfl, wpAny_pure h⟩))) htake)
    | exact wpAny_bind (wpAny_bind (m := Builtin.Tuple.tupleExact _) (wpAny_newObj_type (wpAny_pure (wpAny_pure ⟨_, rfl, wpAny_pure h⟩)) htake))
    | exact wpAny_bind (wpAny_bind (m := Builtin.Tuple.tupleExact _) (wpAny_newObj_type (wpAny_pure ⟨_, rfl, wpAny_pure h⟩) htake))
end
end HT

namespace L2
open PySem PySem.Spec PyProof.Rows

/-! ### the parts of a slice -/
abbrev TO := St → Hp → (Option Int → Hp → Prop) → Prop
/-- a slice's part (left out, or an int) -/
def PO (X : Cx) (e : Option Expr) (t : TO) : Prop :=
  ∀ (pins : List (Addr × Obj)) (s : Shared) (σ : St) (H : Hp) (Q : Option Int → Hp → Prop), Inv X pins σ H s → t σ H Q →
    wpAny (model X.prog X.w) X.A (evalPart e X.env) (fun u s' => ∃ o H', Inv X pins σ H' s' ∧ IsPart u o ∧ Q o H') X.xe s
def tNoPart : TO := fun _ H Q => Q none H
def tPart (t : TE) : TO := fun σ H Q => t σ H fun x H1 => ∃ i, x = .int i ∧ Q (some i) H1

theorem intsAre_of {ns : List Int} : ∀ {us : List Value}, Vals (ns.map V.int) us → IntsAre us ns := by
  induction ns with
  | nil => intro us r; rw [List.map_nil] at r; cases r; exact .nil
  | cons n ns ih =>
    intro us r
    rw [List.map_cons] at r
    cases r with
    | cons r1 r2 =>
      obtain ⟨t, e⟩ := r1
      subst e
      exact .cons n t (ih r2)

section
variable {X : Cx} {e : Expr} {te : TE} {lo hi : Option Expr} {tl th : TO} {pos p2 : Pos}

theorem po_none : PO X none tNoPart := by
  intro pins s σ H Q I h
  rw [evalPart_none]
  exact wpAny_pure ⟨none, H, I, .none, h⟩
theorem po_some (h : PE X e te) : PO X (some e) (tPart te) := by
  intro pins s σ H Q I hw
  rw [evalPart_some]
  refine thn (h pins s σ H _ I hw) fun u s1 ⟨x, H1, I1, r1, q1⟩ => ?_
  obtain ⟨i, rfl, q⟩ := q1
  obtain ⟨t, rfl⟩ := r1
  exact ⟨some i, H1, I1, .int i t, q⟩

/-- what a slice of a value is, by values: the slice object stands at sl -/
def SlR (X : Cx) (r : V → Option Int → Option Int → Hp → VK → Prop) : Prop :=
  ∀ (pins : List (Addr × Obj)) (s : Shared) (σ : St) (H : Hp) (x : V) (v vl vu : Value) (lo hi : Option Int) (sl : Addr) (Q : VK), Inv X pins σ H s → RelV x v → s.heap.IsSliceOf sl vl vu .none → IsPart vl lo → IsPart vu hi → r x lo hi H Q →
    ∃ T id, typeLookup (.type T) "__getitem__" = pure (some (.builtin id)) ∧ s.TypeIs v T ∧ wpAny (model X.prog X.w) X.A (getItem v (.ref sl)) (EP X pins σ Q) X.xe s
def tSl (r : V → Option Int → Option Int → Hp → VK → Prop) (te : TE) (tl th : TO) : TE := fun σ H Q => te σ H fun x H1 => tl σ H1 fun l H2 => th σ H2 fun u H3 => r x l u H3 Q
/-- a[lo:hi], any a -/
theorem pe_slice {r : V → Option Int → Option Int → Hp → VK → Prop} (hr : SlR X r) (he : PE X e te) (hl : PO X lo tl) (hu : PO X hi th) : PE X (.Subscript e (.Slice lo hi none p2) pos) (tSl r te tl th) := by
  intro pins s σ H Q I h
  refine Subscript_ (thn (he pins s σ H _ I h) fun v s1 ⟨x, H1, I1, r1, q1⟩ => ?_)
  refine wpAny_Slice (thn (hl pins s1 σ H1 _ I1 q1) fun vl s2 ⟨l, H2, I2, pl, q2⟩ => thn (hu pins s2 σ H2 _ I2 q2) fun vu s3 ⟨u, H3, I3, pu, q3⟩ => ?_)
  rw [evalPart_none]
  refine wpAny_pure ?_
  have I4 : Inv X pins σ H3 { s3 with heap := s3.heap.push { cls := .type "slice", data := .fields #[vl, vu, .none] } } := I3.kept (t' := s3.toks) fun b ob q => Heap.get?_push_of_some _ q
  obtain ⟨T, id, hT, ht, hg⟩ := hr pins { s3 with heap := s3.heap.push { cls := .type "slice", data := .fields #[vl, vu, .none] } } σ H3 x v vl vu l u s3.heap.objs.size Q I4 r1 (Heap.IsSliceOf.new ..) pl pu q3
  show wpAny (model X.prog X.w) X.A (subscriptTail e (.Slice lo hi none p2) v (.ref s3.heap.objs.size)) (EP X pins σ Q) X.xe { s3 with heap := s3.heap.push { cls := .type "slice", data := .fields #[vl, vu, .none] } }
  exact tail_any (ops := [.ref s3.heap.objs.size, v]) ht hT hg (by with_unfolding_all rfl)

/-- the items of xs[lo:hi] -/
def cutV (xs : List V) (lo hi : Option Int) : List V := (xs.drop (HT.sIx xs.length 0 lo)).take (HT.sIx xs.length xs.length hi - HT.sIx xs.length 0 lo)
theorem cutV_length (xs : List V) (lo hi : Option Int) : (cutV xs lo hi).length ≤ xs.length := by
  unfold cutV
  rw [List.length_take, List.length_drop]
  omega
/-- t[lo:hi], not the whole of it (the whole would be t itself) -/
def rSlT (K : PySem.W.Frag) : V → Option Int → Option Int → Hp → VK → Prop := fun x lo hi H Q => ∃ a xs, x = .ref a ∧ SqT K H a xs ∧
  ¬ (HT.sIx xs.length 0 lo = 0 ∧ HT.sIx xs.length xs.length hi = xs.length) ∧ ∀ p, H p = none → Q (.ref p) (upd H p (.tup (cutV xs lo hi)))
theorem sl_tup : SlR X (rSlT X.K) := by
  intro pins s σ H x v vl vu lo hi sl Q I rx hs pl pu h
  obtain ⟨a, xs, rfl, hx, hw, q⟩ := h
  cases rx
  obtain ⟨its, r, ht, hz⟩ := I.tuple hx
  have hlen : its.toArray.size = xs.length := by rw [List.size_toArray]; exact r.length.symm
  refine ⟨"tuple", _, PyProof.Rows.slot_tuple_getitem.lookup, ht.typeIs, ?_⟩
  refine HT.getItem_tuple_cut ht hs pl pu (by rw [hlen]; exact hw) ?_ (by rw [hlen]; exact hz)
  rw [hlen]
  refine ⟨.ref s.heap.objs.size, _, I.laid (t' := s.toks) (o := .tup (cutV xs lo hi)) (fun b ob q => Heap.get?_push_of_some _ q) (Nat.le_refl _) ?_, rfl, q _ (I.hok.fresh (Nat.le_refl _))⟩
  exact ⟨Nat.le_trans (cutV_length xs lo hi) hz, _, (r.drop (HT.sIx xs.length 0 lo)).take (HT.sIx xs.length xs.length hi - HT.sIx xs.length 0 lo), IsTup.new _ _⟩

/-! ### t < u, t + u -/
end
end L2

namespace L2
open PySem PySem.Spec PyProof.Rows

/-! ### places -/
/-- the place that an index of any sign means -/
def ixN (n : Nat) (i : Int) : Option Nat := if 0 ≤ i then (if i < n then some i.toNat else none) else if -(n : Int) ≤ i then some (i + n).toNat else none
def atI {α : Type} (xs : List α) (i : Int) : Option α := (ixN xs.length i).bind fun j => xs[j]?
theorem ixN_seq {n : Nat} {i : Int} {j : Nat} (h : ixN n i = some j) : seqIndex? i n = some j ∧ j < n ∧ -(n : Int) ≤ i ∧ i < n := by
  unfold ixN at h
  by_cases h0 : 0 ≤ i
  · rw [if_pos h0] at h
    by_cases h1 : i < n
    · rw [if_pos h1] at h
      have e : i.toNat = j := Option.some.inj h
      exact ⟨by rw [seqIndex_of h0 h1, e], by omega, by omega, h1⟩
    · rw [if_neg h1] at h; cases h
  · rw [if_neg h0] at h
    by_cases h1 : -(n : Int) ≤ i
    · rw [if_pos h1] at h
      have e : (i + n).toNat = j := Option.some.inj h
      exact ⟨by rw [seqIndex_neg (by omega) h1, e], by omega, h1, by omega⟩
    · rw [if_neg h1] at h; cases h
theorem atI_get {α : Type} {xs : List α} {i : Int} {v : α} (h : atI xs i = some v) : ∃ j, seqIndex? i xs.length = some j ∧ xs[j]? = some v ∧ j < xs.length ∧ -(xs.length : Int) ≤ i ∧ i < xs.length := by
  unfold atI at h
  cases e : ixN xs.length i with
  | none => rw [e] at h; cases h
  | some j =>
    rw [e] at h
    obtain ⟨h1, h2, h3, h4⟩ := ixN_seq e
    exact ⟨j, h1, h, h2, h3, h4⟩
theorem atI_nat {α : Type} {xs : List α} {j : Nat} {v : α} (h : xs[j]? = some v) : atI xs (j : Int) = some v := by
  have hj : j < xs.length := (List.getElem?_eq_some_iff.mp h).1
  have e : ixN xs.length (j : Int) = some j := by
    unfold ixN
    rw [if_pos (by omega), if_pos (by omega)]; simp
  unfold atI; rw [e]; exact h
theorem atI_last {α : Type} (xs : List α) (v : α) : atI (xs ++ [v]) (-1) = some v := by
  have hl : (xs ++ [v]).length = xs.length + 1 := by simp
  have e : ixN (xs ++ [v]).length (-1) = some xs.length := by
    unfold ixN
    rw [hl, if_neg (by decide), if_pos (by omega)]
    congr 1
    omega
  unfold atI
  rw [e]
  show (xs ++ [v])[xs.length]? = some v
  simp

/-! ### what may be subscripted -/
/-- what stands as an index of a plain subscript -/
def PlainIx (b : Expr) : Prop := ∀ o i, subscripted b false o i = operate [o, i] (getItem o i)
/-- a subscript by values -/
def IxR (X : Cx) (r : R2) : Prop :=
  ∀ (value slice : Expr) (pins : List (Addr × Obj)) (s : Shared) (σ : St) (H : Hp) (x y : V) (v u : Value) (Q : VK), Inv X pins σ H s → RelV x v → RelV y u → r x y H Q →
    subscripted slice false v u = operate [v, u] (getItem v u) → wpAny (model X.prog X.w) X.A (subscriptTail value slice v u) (EP X pins σ Q) X.xe s
/-- a call of a builtin's method by values: the receiver, the arguments -/
def MtR (X : Cx) (id : String) (r : V → List V → Hp → VK → Prop) : Prop :=
  ∀ (pins : List (Addr × Obj)) (s : Shared) (σ : St) (H : Hp) (x : V) (xs : List V) (v : Value) (us : List Value) (Q : VK), Inv X pins σ H s → RelV x v → Vals xs us → r x xs H Q →
    wpAny (model X.prog X.w) X.A (call (.builtin id) (v :: us)) (EP X pins σ Q) X.xe s
section
variable {X : Cx} {a b : Expr} {ta tb : TE} {pos : Pos}
/-- a[b] -/
theorem pe_ix {r : R2} (hr : IxR X r) (ha : PE X a ta) (hb : PE X b tb) (hs : PlainIx b) : PE X (.Subscript a b pos) (tOp r ta tb) := by
  intro pins s σ H Q I h
  exact Subscript_ (binT ha hb I h fun v u s2 x y H2 I2 rx ry q => hr a b pins s2 σ H2 x y v u Q I2 rx ry q (hs _ _))

def rIxL (K : PySem.W.Frag) : R2 := fun x y H Q => ∃ p xs i v, x = .ref p ∧ y = .int i ∧ SqL K H p xs ∧ atI xs i = some v ∧ Q v H
def rIxT (K : PySem.W.Frag) : R2 := fun x y H Q => ∃ p xs i v, x = .ref p ∧ y = .int i ∧ SqT K H p xs ∧ atI xs i = some v ∧ Q v H
theorem ix_list : IxR X (rIxL X.K) := by
  intro value slice pins s σ H x y v u Q I rx ry h hs
  obtain ⟨p, xs, i, z, rfl, rfl, hq, he, q⟩ := h
  cases rx
  obtain ⟨t, rfl⟩ := ry
  obtain ⟨its, r, pl, hz⟩ := I.list hq
  obtain ⟨j, h1, h2, h3, h4, h5⟩ := atI_get he
  obtain ⟨w, ew, rw'⟩ := r.get h2
  have hl := r.length
  have hn := line63
  have fin : EP X pins σ Q w s := ⟨z, H, I, rw', q⟩
  by_cases h0 : 0 ≤ i
  · have hj : i.toNat = j := by
      rw [seqIndex_of h0 h5] at h1
      exact Option.some.inj h1
    exact item_listR pl.isList h0 (by omega) (by rw [hj]; simpa using ew) fin hs
  · have hj : (i + (its.toArray.size : Int)).toNat = j := by
      rw [seqIndex_neg (by omega) h4] at h1
      rw [List.size_toArray, ← hl]
      exact Option.some.inj h1
    exact subscriptTail_builtinR (x := w) pl.isList.typeIs slot_list_getitem.lookup
      (wpAny_getItem_list_neg (Q := fun r s' => r = w ∧ EP X pins σ Q r s') pl.isList (by omega) (by rw [List.size_toArray] <;> omega) (by omega) (by rw [hj]; simpa using ew) ⟨rfl, fin⟩) hs
theorem ix_tup : IxR X (rIxT X.K) := by
  intro value slice pins s σ H x y v u Q I rx ry h hs
  obtain ⟨p, xs, i, z, rfl, rfl, hq, he, q⟩ := h
  cases rx
  obtain ⟨t, rfl⟩ := ry
  obtain ⟨its, r, pl, hz⟩ := I.tuple hq
  obtain ⟨j, h1, h2, h3, h4, h5⟩ := atI_get he
  obtain ⟨w, ew, rw'⟩ := r.get h2
  have hl := r.length
  have hn := line63
  have fin : EP X pins σ Q w s := ⟨z, H, I, rw', q⟩
  exact subscriptTail_builtinR (x := w) pl.typeIs slot_tuple_getitem.lookup
    (getItem_tuple (j := j) (Q := fun r s' => r = w ∧ EP X pins σ Q r s') pl (by omega) (by omega) (by rw [List.size_toArray, ← hl]; exact h1) (by simpa using ew) ⟨rfl, fin⟩) hs
/-! ### xs[i] = v, any sign -/
/-- the list's object behind a store -/
theorem mapSeq_set (its : List Value) (n j : Nat) (u : Value) : Obj.mapSeq (·.setIfInBounds j u) { cls := .type "list", data := .seq its.toArray n } = { cls := .type "list", data := .seq (its.set j u).toArray n } := by
  simp [Obj.mapSeq]
theorem Inv.lst {pins : List (Addr × Obj)} {σ : St} {H : Hp} {s : Shared} {p : Addr} {xs : List V} (I : Inv X pins σ H s) (h : H p = some (.lst xs)) :
    ∃ (its : List Value) (n : Nat), Vals xs its ∧ s.heap.get? p = some { cls := .type "list", data := .seq its.toArray n } ∧ xs.length ≤ sizeLine := by
  obtain ⟨z, its, n, r, e⟩ := I.hok p _ h
  exact ⟨its, n, r, e, z⟩
/-- the list at p is written by an update of its object -/
theorem Inv.lstUpd {pins : List (Addr × Obj)} {σ : St} {H : Hp} {s : Shared} {p : Addr} {xs ys : List V} {its its' : List Value} {n n' : Nat} {f : Obj → Obj} (I : Inv X pins σ H s) (h : H p = some (.lst xs))
    (ho : s.heap.get? p = some { cls := .type "list", data := .seq its.toArray n }) (hf : f { cls := .type "list", data := .seq its.toArray n } = { cls := .type "list", data := .seq its'.toArray n' }) (r : Vals ys its') (hz : ys.length ≤ sizeLine) (t : Nat) :
    Inv X pins σ (upd H p (.lst ys)) { s with heap := s.heap.update p f, toks := t } := by
  have e : (s.heap.update p f).get? p = some { cls := .type "list", data := .seq its'.toArray n' } := by
    rw [Heap.get?_update_self f ho (by rw [hf] <;> rfl), hf]
  refine I.write (x := p) (e := p) (by rw [h]; trivial) (.inl rfl) (fun b u hb q => (Heap.get?_update_other _ _ (Ne.symm hb)).trans q) ⟨_, e⟩ ?_
  exact ⟨hz, its', n', r, e⟩
def rSetL : V → V → V → Hp → (Hp → Prop) → Prop := fun o i v H Q => ∃ p xs k j, o = .ref p ∧ i = .int k ∧ H p = some (.lst xs) ∧ ixN xs.length k = some j ∧ Q (upd H p (.lst (xs.set j v)))
theorem set_list : PSet X rSetL := by
  intro pins s σ H o i v ov iv u Q I ro ri rv h
  obtain ⟨p, xs, k, j, rfl, rfl, hp, hj, q⟩ := h
  cases ro
  obtain ⟨t, rfl⟩ := ri
  obtain ⟨its, n, r, ho, hz⟩ := I.lst hp
  obtain ⟨h1, h2, h3, h4⟩ := ixN_seq hj
  have hl := r.length
  have hn := line63
  have I' : Inv X pins σ (upd H p (.lst (xs.set j v))) { s with heap := s.heap.update p (Obj.mapSeq (·.setIfInBounds j u)) } :=
    I.lstUpd hp ho (mapSeq_set its n j u) (r.set rv j) (by rw [List.length_set]; exact hz) s.toks
  by_cases h0 : 0 ≤ k
  · have hk : k.toNat = j := by
      rw [seqIndex_of h0 h4] at h1
      exact Option.some.inj h1
    exact PySem.W.ki_setAt ho h0 (by omega) (by rw [List.size_toArray, ← hl]; exact h4) (by rw [hk]; exact ⟨_, I', q⟩)
  · have hk : (k + (its.toArray.size : Int)).toNat = j := by
      rw [seqIndex_neg (by omega) h3] at h1
      rw [List.size_toArray, ← hl]
      exact Option.some.inj h1
    exact PySem.W.ki_setBack ho (by omega) (by rw [List.size_toArray, ← hl]; exact h3) (by omega) (by rw [hk]; exact ⟨_, I', q⟩)

/-! ### slices -/
theorem slice_bounds (lo hi : Option Int) (n : Nat) : (sliceBounds lo hi none n).1 = ((HT.sIx n 0 lo : Nat) : Int) ∧ (sliceBounds lo hi none n).2.1 = ((HT.sIx n n hi : Nat) : Int) ∧ (sliceBounds lo hi none n).2.2 = 1 := by
  refine ⟨?_, ?_, rfl⟩
  · cases lo with
    | none => simp [sliceBounds, HT.sIx]
    | some i =>
      simp only [sliceBounds, HT.sIx, Option.getD_none, show (1 : Int) > 0 by decide, if_true]
      by_cases h : i < 0
      · simp only [h, if_true] <;> omega
      · simp only [h, if_false] <;> omega
  · cases hi with
    | none => simp [sliceBounds, HT.sIx]
    | some i =>
      simp only [sliceBounds, HT.sIx, Option.getD_none, show (1 : Int) > 0 by decide, if_true]
      by_cases h : i < 0
      · simp only [h, if_true] <;> omega
      · simp only [h, if_false] <;> omega
theorem slicePick_cut (its : List Value) (lo hi : Option Int) : slicePick its.toArray lo hi none = ((its.drop (HT.sIx its.length 0 lo)).take (HT.sIx its.length its.length hi - HT.sIx its.length 0 lo)).toArray := by
  obtain ⟨h1, h2, h3⟩ := slice_bounds lo hi its.toArray.size
  unfold slicePick
  rw [h1, h2, h3]
  simp only [sliceRange_one, pick_run, List.size_toArray] <;> rfl
/-- xs[lo:hi] of a list: a new list -/
def rSlL (K : PySem.W.Frag) : V → Option Int → Option Int → Hp → VK → Prop := fun x lo hi H Q => ∃ a xs, x = .ref a ∧ SqL K H a xs ∧ ∀ p, H p = none → Q (.ref p) (upd H p (.lst (cutV xs lo hi)))
theorem sl_list : SlR X (rSlL X.K) := by
  intro pins s σ H x v vl vu lo hi sl Q I rx hs pl pu h
  obtain ⟨a, xs, rfl, hx, q⟩ := h
  cases rx
  obtain ⟨its, r, ht, hz⟩ := I.list hx
  have hlen := r.length
  refine ⟨"list", _, slot_list_getitem.lookup, ht.isList.typeIs, ?_⟩
  refine wpAny_getItem_list_slice ht.isList hs pl pu .none (by simp) ?_ (by rw [List.size_toArray] <;> omega)
  rw [slicePick_cut, ← hlen]
  refine ⟨.ref s.heap.objs.size, _, I.laid (t' := s.toks) (o := .lst (cutV xs lo hi)) (fun b ob q => Heap.get?_push_of_some _ q) (Nat.le_refl _) ?_, rfl, q _ (I.hok.fresh (Nat.le_refl _))⟩
  exact ⟨Nat.le_trans (cutV_length xs lo hi) hz, _, 0, (r.drop (HT.sIx xs.length 0 lo)).take (HT.sIx xs.length xs.length hi - HT.sIx xs.length 0 lo), Heap.get?_push_size _ rfl⟩

/-! ### in, not in: flat items -/
/-! ### len, list(x), tuple(x) of any list or tuple that is read -/
theorem call_len_seq : CallR X (.builtin "len") (fun xs H Q => ∃ p ys, xs = [.ref p] ∧ (SqL X.K H p ys ∨ SqT X.K H p ys) ∧ Q (.int ys.length) H) := by
  intro pins s σ H xs us Q I r h
  obtain ⟨p, ys, rfl, hq, q⟩ := h
  obtain ⟨u, rfl, rx⟩ := vals1 r
  cases rx
  have hn := line63
  rcases hq with hq | hq
  · obtain ⟨its, r', pl, hz⟩ := I.list hq
    have hlen := r'.length
    exact Calls.call_len_list pl.isList (by simp only [List.size_toArray] <;> omega) ⟨.int ys.length, H, I.tok _, ⟨s.toks + 1, by rw [List.size_toArray, hlen]⟩, q⟩
  · obtain ⟨its, r', pl, hz⟩ := I.tuple hq
    have hlen := r'.length
    exact len_tuple pl (by simp only [List.size_toArray] <;> omega) ⟨.int ys.length, H, I.tok _, ⟨s.toks + 1, by rw [List.size_toArray, hlen]⟩, q⟩
theorem call_list_of : CallR X (.type "list") (fun xs H Q => ∃ p ys, xs = [.ref p] ∧ (SqL X.K H p ys ∨ SqT X.K H p ys) ∧ ∀ l, H l = none → Q (.ref l) (upd H l (.lst ys))) := by
  intro pins s σ H xs us Q I r h
  obtain ⟨p, ys, rfl, hq, q⟩ := h
  obtain ⟨u, rfl, rx⟩ := vals1 r
  cases rx
  have fin : ∀ (its : List Value), Vals ys its → ys.length ≤ sizeLine → ∀ (h' : Heap) (c' : Nat), (∀ b o', s.heap.get? b = some o' → h'.get? b = some o') →
      h'.get? s.heap.objs.size = some { cls := .type "list", dict := none, data := .seq its.toArray c', slots := #[] } → EP X pins σ Q (.ref s.heap.objs.size) { s with heap := h' } := fun its r' hz h' c' kp e =>
    ⟨.ref s.heap.objs.size, _, I.laid (t' := s.toks) kp (Nat.le_refl _) (show ObjOk X.prog X.w _ h' _ (.lst ys) from ⟨hz, its, c', r', e⟩), rfl, q _ (I.hok.fresh (Nat.le_refl _))⟩
  rcases hq with hq | hq
  · obtain ⟨its, r', pl, hz⟩ := I.list hq
    have hlen := r'.length
    obtain ⟨o, ho, hc, n, hd⟩ := pl.isList
    exact call_list_seq p (.inl rfl) ho hc hd (fun h' c' kp e => fin its r' hz h' c' kp e) (by simp only [List.size_toArray] <;> omega)
  · obtain ⟨its, r', pl, hz⟩ := I.tuple hq
    have hlen := r'.length
    obtain ⟨o, ho, hc, n, hd⟩ := pl
    exact call_list_seq p (.inr rfl) ho hc hd (fun h' c' kp e => fin its r' hz h' c' kp e) (by simp only [List.size_toArray] <;> omega)
theorem call_tuple_of : CallR X (.type "tuple") (fun xs H Q => ∃ p ys, xs = [.ref p] ∧ ((SqL X.K H p ys ∧ ∀ l, H l = none → Q (.ref l) (upd H l (.tup ys))) ∨ (SqT X.K H p ys ∧ Q (.ref p) H))) := by
  intro pins s σ H xs us Q I r h
  obtain ⟨p, ys, rfl, h⟩ := h
  obtain ⟨u, rfl, rx⟩ := vals1 r
  cases rx
  rcases h with ⟨hq, q⟩ | ⟨hq, q⟩
  · obtain ⟨its, r', pl, hz⟩ := I.list hq
    have hlen := r'.length
    refine call_tuple_list pl.isList (fun h' kp => ?_) (by simp only [List.size_toArray] <;> omega)
    have I1 : Inv X pins σ H { s with heap := h' } := I.kept (t' := s.toks) kp
    have I2 : Inv X pins σ (upd H h'.objs.size (.tup ys)) { s with heap := h'.push { cls := .type "tuple", data := .seq its.toArray } } :=
      I1.laid (t' := s.toks) (fun b o e => Heap.get?_push_of_some _ e) (Nat.le_refl _) (show ObjOk X.prog X.w _ _ _ (.tup ys) from ⟨hz, its, r', IsTup.new _ _⟩)
    exact ⟨.ref h'.objs.size, _, I2, rfl, q _ (I1.hok.fresh (Nat.le_refl _))⟩
  · obtain ⟨its, r', pl, hz⟩ := I.tuple hq
    exact call_tuple_same pl ⟨.ref p, H, I, rfl, q⟩

/-! ### the call of a builtin's method: o.m(..) -/
/-- the value is of that builtin type -/
def tyV (K : PySem.W.Frag) (T : String) (x : V) (H : Hp) : Prop := match x with
  | .str _ => T = "str"
  | .int _ => T = "int"
  | .ref p => (T = "list" ∧ ∃ xs, SqL K H p xs) ∨ (T = "tuple" ∧ ∃ o, K.lookup p = some o ∧ o.cls = .type "tuple" ∧ o.dict = none) ∨
      (T = "dict" ∧ ((∃ kvs, H p = some (.dK kvs)) ∨ ∃ kvs, H p = some (.dT kvs))) ∨ (T = "set" ∧ ∃ S n, H p = some (.set S n))
  | _ => False
theorem tyV_is {pins : List (Addr × Obj)} {σ : St} {H : Hp} {s : Shared} {T : String} {x : V} {v : Value} (I : Inv X pins σ H s) (r : RelV x v) (ty : tyV X.K T x H) :
    s.TypeIs v T ∧ ∀ a, v = .ref a → ∃ ob, s.heap.get? a = some ob ∧ ob.dict = none := by
  cases x with
  | str z =>
    obtain ⟨t, rfl⟩ := r
    cases (show T = "str" from ty)
    exact ⟨typeIs_str s z t, fun _ e => nomatch e⟩
  | int i =>
    obtain ⟨t, rfl⟩ := r
    cases (show T = "int" from ty)
    exact ⟨typeIs_int s i t, fun _ e => nomatch e⟩
  | ref p =>
    cases r
    rcases ty with ⟨rfl, xs, hq⟩ | ⟨rfl, o, hk, hc, hd⟩ | ⟨rfl, hk⟩ | ⟨rfl, S, n, hk⟩
    · obtain ⟨its, _, pl, _⟩ := I.list hq
      refine ⟨pl.isList.typeIs, fun a e => ?_⟩
      cases e
      obtain ⟨o, n, e, c, hd, _⟩ := pl
      exact ⟨o, e, hd⟩
    · refine ⟨⟨o, I.kIn p o hk, hc⟩, fun a e => ?_⟩
      cases e
      exact ⟨o, I.kIn _ o hk, hd⟩
    · have z : ∃ o, s.heap.get? p = some o ∧ o.ExactDict := by
        rcases hk with ⟨kvs, hk⟩ | ⟨kvs, hk⟩
        · obtain ⟨_, _, _, _, o, _, _, e, ex, _⟩ := I.hok p _ hk
          exact ⟨o, e, ex⟩
        · obtain ⟨_, _, _, _, o, _, _, e, ex, _⟩ := I.hok p _ hk
          exact ⟨o, e, ex⟩
      obtain ⟨o, e, ex⟩ := z
      refine ⟨⟨o, e, ex.1⟩, fun a e2 => ?_⟩
      cases e2
      exact ⟨o, e, ex.2.1⟩
    · obtain ⟨o, _, _, _, e, ex, _⟩ := I.hok p _ hk
      refine ⟨⟨o, e, ex.1⟩, fun a e2 => ?_⟩
      cases e2
      exact ⟨o, e, ex.2.1⟩
  | _ => exact False.elim ty
def tBM (K : PySem.W.Frag) (T : String) (r : V → List V → Hp → VK → Prop) (to : TE) (t : TA) : TE := fun σ H Q => to σ H fun x H1 => tyV K T x H1 ∧ t σ H1 fun xs H2 => r x xs H2 Q
variable {o e : Expr} {es : List Expr} {to : TE} {t : TA} {name : Str} {apos cpos : Pos} {T id : String} {r : V → List V → Hp → VK → Prop}
theorem pe_bm (pa : PlainAttrs T) (slot : Slot T name id) (hty : typeOf (.builtin id) = pure (.type "method_descriptor")) (hm : MtR X id r) (ho : PE X o to) (ha : PA X (e :: es) t)
    (hbase : attributeBase o name X.env (eval o X.env) = eval o X.env := by rfl)
    (hfew : ((backTo cpos (starEach (e :: es) X.env)).all (fun x => !x.1) && (backToKw cpos (keywordEach [] X.env)).all (fun x => x.1.isSome)
      && decide ((e :: es).length + ([] : List Keyword).length + (if ([] : List Keyword).isEmpty then 0 else 1) < 30)) = true := by rfl)
    (hline : (apos.endLine == cpos.line) = true := by rfl) (hs : starEach (e :: es) X.env = (false, eval e X.env) :: starEach es X.env := by rfl) (hplain : (backTo cpos (starEach es X.env)).any (·.1) = false := by rfl) :
    PE X (.Call (.Attribute o name apos) (e :: es) [] cpos) (tBM X.K T r to t) := by
  intro pins s σ H Q I h
  refine wpAny_Call_method_late hbase hfew hline rfl (thn (ho pins s σ H _ I h) fun v s1 ⟨x, H1, I1, r1, ty, q1⟩ => ?_)
  obtain ⟨h1, h2⟩ := tyV_is I1 r1 ty
  refine ⟨T, id, pa, slot, hty, h1, h2, ?_⟩
  have hA := ha cpos pins s1 σ H1 _ I1 q1
  rw [hs] at hA ⊢
  refine Calls.callWith_builtin (by show (false || (backTo cpos (starEach es X.env)).any (·.1)) = false; rw [hplain] <;> rfl) (Calls.evalArgs_plain ?_)
  exact thn hA fun us s2 ⟨vs, H2, I2, r2, q2⟩ => hm pins s2 σ H2 x vs v us Q I2 r1 r2 q2
/- xs.append(e), list.index on a module's tuple .. are MtR facts of 06m -/
end
end L2

namespace L2
open PySem PySem.Spec PyProof.Rows

def MtM (X : Cx) (id : String) (r : V → List V → Hp → VK → Prop) : Prop :=
  ∀ (pins : List (Addr × Obj)) (s : Shared) (σ : St) (H : Hp) (x : V) (xs : List V) (v : Value) (us : List Value) (Q : VK), Inv X pins σ H s → RelV x v → Vals xs us → r x xs H Q →
    wpAny (model X.prog X.w) X.A (call (.builtin id) (v :: us)) (EP X pins σ Q) X.xe s

/-! ### lists of values -/
theorem Vals.one : ∀ {x : V} {us : List Value}, Vals [x] us → ∃ u, us = [u] ∧ RelV x u
  | _, _, .cons r .nil => ⟨_, rfl, r⟩
theorem Vals.two : ∀ {x y : V} {us : List Value}, Vals [x, y] us → ∃ u v, us = [u, v] ∧ RelV x u ∧ RelV y v
  | _, _, _, .cons r (.cons q .nil) => ⟨_, _, rfl, r, q⟩
theorem Vals.eraseIdx : ∀ {xs : List V} {us : List Value} (i : Nat), Vals xs us → Vals (xs.eraseIdx i) (us.eraseIdx i)
  | _, _, _, .nil => .nil
  | _, _, 0, .cons _ t => t
  | _, _, i + 1, .cons r t => .cons r (Vals.eraseIdx i t)
theorem Vals.reverse {xs : List V} {us : List Value} (h : Vals xs us) : Vals xs.reverse us.reverse := by
  induction h with
  | nil => exact .nil
  | cons r t ih => rw [List.reverse_cons, List.reverse_cons]; exact Vals.append ih (.cons r .nil)
theorem Vals.rep {xs : List V} {us : List Value} (h : Vals xs us) : ∀ k : Nat, Vals (List.replicate k xs).flatten (List.replicate k us).flatten
  | 0 => .nil
  | k + 1 => by
    rw [List.replicate_succ, List.replicate_succ, List.flatten_cons, List.flatten_cons]
    exact Vals.append h (Vals.rep h k)
theorem len_erase {α : Type} : ∀ (l : List α) (i : Nat), (l.eraseIdx i).length ≤ l.length
  | [], _ => Nat.le_refl _
  | _ :: _, 0 => Nat.le_succ _
  | _ :: r, i + 1 => Nat.succ_le_succ (len_erase r i)
theorem foldl_rep (its : List Value) : ∀ (k : Nat) (acc : List Value),
    List.foldl (fun x1 x2 => x1 ++ x2) acc.toArray (List.replicate k its.toArray) = (acc ++ (List.replicate k its).flatten).toArray
  | 0, acc => by simp
  | k + 1, acc => by
    have e : acc.toArray ++ its.toArray = (acc ++ its).toArray := by simp
    have e2 : (acc ++ its) ++ (List.replicate k its).flatten = acc ++ (List.replicate (k + 1) its).flatten := by
      rw [List.replicate_succ, List.flatten_cons, List.append_assoc]
    rw [← e2, ← foldl_rep its k (acc ++ its), ← e, List.replicate_succ, List.foldl_cons]

section
variable {X : Cx} {pins : List (Addr × Obj)} {σ : St} {H : Hp} {s : Shared} {l b : Addr} {xs ys zs : List V}

/-! ### the two steps: a tracked list is rewritten, a new list is laid -/
theorem Inv.lset {its its' : List Value} {n : Nat} {f : Array Value → Array Value} {t' : Nat} (I : Inv X pins σ H s) (hH : H l = some (.lst xs))
    (e : s.heap.get? l = some { cls := .type "list", data := .seq its.toArray n }) (hf : f its.toArray = its'.toArray) (hv : Vals ys its') (hz : ys.length ≤ sizeLine) :
    Inv X pins σ (upd H l (.lst ys)) { s with heap := s.heap.update l (Obj.mapSeq f), toks := t' } := by
  have q := PySem.IsL.update e f
  rw [hf] at q
  refine I.write (x := l) (e := l) (by rw [hH]; exact trivial) (.inl rfl) (fun b' u hb hu => (Heap.get?_update_other s.heap (Obj.mapSeq f) (Ne.symm hb)).trans hu) ⟨_, q⟩ ?_
  exact ⟨hz, its', _, hv, q⟩
theorem Inv.lnew {its : List Value} {t' : Nat} (I : Inv X pins σ H s) (hv : Vals ys its) (hz : ys.length ≤ sizeLine) :
    Inv X pins σ (upd H s.heap.objs.size (.lst ys)) { s with heap := s.heap.push { cls := .type "list", data := .seq its.toArray }, toks := t' } :=
  I.laid (fun _ _ q => Heap.get?_push_of_some _ q) (Nat.le_refl _) ⟨hz, its, 0, hv, Heap.get?_push_size _ rfl⟩
theorem Inv.fresh (I : Inv X pins σ H s) : H s.heap.objs.size = none := I.hok.fresh (Nat.le_refl _)
theorem Inv.lstM (I : Inv X pins σ H s) (hH : H l = some (.lst xs)) : xs.length ≤ sizeLine ∧ ∃ (its : List Value) (n : Nat), Vals xs its ∧ xs.length = its.length ∧ s.heap.get? l = some { cls := .type "list", data := .seq its.toArray n } := by
  obtain ⟨z, its, n, r, e⟩ := I.hok l _ hH
  exact ⟨z, its, n, r, r.length, e⟩

theorem notLongL {n : Nat} (h : n ≤ sizeLine) : Builtin.List.listTooLong n = false := by
  unfold Builtin.List.listTooLong
  exact decide_eq_false (by omega)
end

section
variable {X : Cx}

/-! ### methods -/
def rAppend : V → List V → Hp → VK → Prop := fun x vs H Q => ∃ l xs y, x = .ref l ∧ vs = [y] ∧ H l = some (.lst xs) ∧ xs.length < sizeLine ∧ Q .non (upd H l (.lst (xs ++ [y])))
theorem mt_append : MtM X "list.append" rAppend := by
  intro pins s σ H x vs v us Q I rx rv h
  obtain ⟨l, xs, y, rfl, rfl, hH, hz, q⟩ := h
  cases rx
  obtain ⟨u, rfl, ru⟩ := rv.one
  obtain ⟨z, its, n, r, hl, e⟩ := I.lstM hH
  refine call_meets F.slot_list_append ⟨_, e, rfl⟩ F.entry_list_append (F.args_list_append_2 _ _) (PySem.list_append l its.toArray n u (by rw [List.size_toArray]; omega)) ⟨e, ?_⟩
  refine ⟨.non, _, I.lset (its' := its ++ [u]) hH e (by simp) (r.append (.cons ru .nil)) ?_, rfl, q⟩
  rw [List.length_append, List.length_singleton]
  omega

def rExtend : V → List V → Hp → VK → Prop := fun x vs H Q => ∃ l b xs zs, x = .ref l ∧ vs = [.ref b] ∧ H l = some (.lst xs) ∧ H b = some (.lst zs) ∧ xs.length + zs.length ≤ sizeLine ∧ Q .non (upd H l (.lst (xs ++ zs)))
theorem mt_extend : MtM X "list.extend" rExtend := by
  intro pins s σ H x vs v us Q I rx rv h
  obtain ⟨l, b, xs, zs, rfl, rfl, hH, hB, hz, q⟩ := h
  cases rx
  obtain ⟨u, rfl, ru⟩ := rv.one
  cases ru
  obtain ⟨z, its, n, r, hl, e⟩ := I.lstM hH
  obtain ⟨z2, its2, n2, r2, hl2, e2⟩ := I.lstM hB
  have hsz : its.toArray.size + its2.toArray.size ≤ sizeLine := by rw [List.size_toArray, List.size_toArray]; omega
  have hlong : ¬ (!its.toArray.isEmpty && Builtin.List.listTooLong (its.toArray.size + its2.toArray.size)) = true := by
    rw [notLongL hsz, Bool.and_false]
    exact Bool.false_ne_true
  refine call_meets F.slot_list_extend ⟨_, e, rfl⟩ F.entry_list_extend (F.args_list_extend_2 _ _)
    (AutoSeq1.list_extend_list_list_0 l its.toArray n b its2.toArray n2 hlong (by rw [List.size_toArray]; omega) (by omega)) ⟨e, e2, ?_⟩
  refine ⟨.non, _, I.lset (its' := its ++ its2) hH e (by simp) (r.append r2) ?_, rfl, q⟩
  rw [List.length_append]
  omega

def rPopAt : V → List V → Hp → VK → Prop := fun x vs H Q => ∃ l xs i k y, x = .ref l ∧ vs = [.int i] ∧ H l = some (.lst xs) ∧ -(2 ^ 63) ≤ i ∧ i < 2 ^ 63 ∧ seqIndex? i xs.length = some k ∧ xs[k]? = some y ∧ Q y (upd H l (.lst (xs.eraseIdx k)))
theorem mt_popAt : MtM X "list.pop" rPopAt := by
  intro pins s σ H x vs v us Q I rx rv h
  obtain ⟨l, xs, i, k, y, rfl, rfl, hH, h1, h2, hk, hy, q⟩ := h
  cases rx
  obtain ⟨u, rfl, ru⟩ := rv.one
  obtain ⟨t, rfl⟩ := ru
  obtain ⟨z, its, n, r, hl, e⟩ := I.lstM hH
  obtain ⟨w, hw, rw'⟩ := r.get hy
  refine call_meets F.slot_list_pop ⟨_, e, rfl⟩ F.entry_list_pop (F.args_list_pop_2 _ _)
    (MeetsSeq.list_pop_at l its.toArray n i t k w (fitsIndex_both h1 h2) (by rw [List.size_toArray, ← hl]; exact hk) (by rw [← Array.getElem?_toList]; exact hw) (by rw [List.size_toArray]; omega)) ⟨e, ?_⟩
  refine ⟨y, _, I.lset (its' := its.eraseIdx k) hH e ?_ (r.eraseIdx k) ?_, rw', q⟩
  · show its.toArray.eraseIdxIfInBounds k = (its.eraseIdx k).toArray
    rw [List.eraseIdxIfInBounds_toArray]
  · have := len_erase xs k
    omega

/-! ### list + list, list += list, list * int -/
def rCat : R2 := fun x y H Q => ∃ l b xs zs, x = .ref l ∧ y = .ref b ∧ H l = some (.lst xs) ∧ H b = some (.lst zs) ∧ xs.length + zs.length ≤ sizeLine ∧ ∀ p, H p = none → Q (.ref p) (upd H p (.lst (xs ++ zs)))
theorem op_cat : OpR X (binaryOp .Add) rCat := by
  intro pins s σ H x y v u Q I rx ry h
  obtain ⟨l, b, xs, zs, rfl, rfl, hH, hB, hz, q⟩ := h
  cases rx
  cases ry
  obtain ⟨z, its, n, r, hl, e⟩ := I.lstM hH
  obtain ⟨z2, its2, n2, r2, hl2, e2⟩ := I.lstM hB
  refine PySem.P.add_list e e2 ?_ (by rw [List.size_toArray, List.size_toArray]; omega)
  have ea : its.toArray ++ its2.toArray = (its ++ its2).toArray := by simp
  rw [ea]
  exact ⟨.ref _, _, I.lnew (t' := s.toks) (r.append r2) (by rw [List.length_append]; omega), rfl, q _ I.fresh⟩
/-- a list times an int (a negative one is nothing) -/
def rRep : R2 := fun x y H Q => ∃ l k xs, x = .ref l ∧ y = .int k ∧ H l = some (.lst xs) ∧ -(2 ^ 63) ≤ k ∧ k < 2 ^ 63 ∧ xs.length * k.toNat ≤ sizeLine ∧
  ∀ p, H p = none → Q (.ref p) (upd H p (.lst (List.replicate k.toNat xs).flatten))
theorem len_rep {α : Type} (xs : List α) (k : Nat) : (List.replicate k xs).flatten.length = k * xs.length := by
  induction k with
  | zero => simp
  | succ k ih => rw [List.replicate_succ, List.flatten_cons, List.length_append, ih, Nat.succ_mul, Nat.add_comm]
theorem op_rep : OpR X (binaryOp .Mult) rRep := by
  intro pins s σ H x y v u Q I rx ry h
  obtain ⟨l, k, xs, rfl, rfl, hH, h1, h2, hz, q⟩ := h
  cases rx
  obtain ⟨t, rfl⟩ := ry
  obtain ⟨z, its, n, r, hl, e⟩ := I.lstM hH
  have hlen : its.toArray.size * k.toNat ≤ sizeLine := by rw [List.size_toArray, ← hl]; exact hz
  have hcap : ¬ its.toArray.size * k.toNat > (2 ^ 63 - 1) / 8 := by
    have : (sizeLine : Nat) ≤ (2 ^ 63 - 1) / 8 := by decide
    omega
  have hfit : ¬ (!Builtin.List.listFitsIndex k) = true := by
    rw [fitsIndex_both h1 h2]
    exact Bool.false_ne_true
  have hlong : ¬ Builtin.List.listTooLong (its.toArray.size * k.toNat) = true := by
    rw [notLongL hlen]
    exact Bool.false_ne_true
  have hnew : List.foldl (fun x1 x2 => x1 ++ x2) #[] (List.replicate (if its.toArray.isEmpty = true then 0 else k.toNat) its.toArray) = (List.replicate k.toNat its).flatten.toArray := by
    have f0 : ∀ m : Nat, List.foldl (fun x1 x2 => x1 ++ x2) #[] (List.replicate m its.toArray) = (List.replicate m its).flatten.toArray := fun m => by
      have := foldl_rep its m []
      rw [List.nil_append] at this
      exact this
    rw [f0]
    cases its with
    | nil => simp
    | cons a r' => rw [if_neg (by simp)]
  refine wpAny_binaryOp_repeat_ref (T := "list") (U := "int") (by decide) ⟨_, e, rfl⟩ (fun s' => typeIs_int s' k t) noFill_list_mul F.fills_int_mul F.slot_int_rmul repeat_list F.slot_int_index.lookup
    (call_meets F.slot_int_rmul (typeIs_int s k t) F.entry_int_rmul (F.args_int_rmul_2 _ _) (int___rmul___int_list k t l its.toArray n)
      ⟨e, rfl, ⟨_, e, rfl⟩, call_meets F.slot_list_mul ⟨_, e, rfl⟩ F.entry_list_mul (F.args_list_mul_2 _ _) (AutoListH.list___mul___list_int_3 l its.toArray n k t hfit hcap hlong) ⟨e, ?_⟩⟩)
  rw [hnew]
  exact ⟨.ref _, _, I.lnew (t' := s.toks) (r.rep k.toNat) (by rw [len_rep, Nat.mul_comm]; exact hz), rfl, q _ I.fresh⟩

/-! ### del xs[i] -/
end

/-! ### xs[a:b] = ys -/
section
variable {prog : Program} {w : World} {A : Around} {E : Value → Shared → Prop} {s : Shared}
end

section
variable {X : Cx}
end
end L2

namespace Att
open PySem PySem.W PySem.Calls PyProof.Rows

/-! ### the script -/
theorem ints_of_wellAll {P : Params} {h : Heap} : ∀ (ns : List Int) (vs : List Value), WellAll P h vs (ns.map WData.int) → IntsAre vs ns := by
  intro ns
  induction ns with
  | nil =>
    intro vs w
    rw [List.map_nil] at w
    cases w
    exact .nil
  | cons n ns ih =>
    intro vs w
    rw [List.map_cons] at w
    cases w with
    | cons a b =>
      cases a
      exact .cons _ _ (ih _ b)

theorem script_of {l : OpenLaw} {n : Nat} (hn : l.most = some n) {P : Params} {h : Heap} {args : List WData} {vals : List Value}
    (hpre : l.row.toRowW.claim.pre args = true) (hwl : WellAll P h vals args) :
    ∃ a vs ns, vals = [Value.ref a] ∧ args = [WData.list (ns.map WData.int)] ∧ h.get? a = some { cls := .type "list", data := .seq vs.toArray } ∧ IntsAre vs ns ∧ ns.length ≤ n := by
  have hsh : WShape.hasAll [] args [.list .int] = true := (pre_splitW hpre).1
  have hc : l.pre.holds [] { args := args } = true := (pre_splitW hpre).2
  obtain ⟨d, r, rfl, h1, h2⟩ := hasAllW_cons hsh
  obtain rfl := hasAllW_nil h2
  obtain ⟨xs, rfl, h3⟩ := hasW_list h1
  obtain ⟨ns, rfl⟩ := items_int h3
  have hlen : ns.length ≤ n := by
    unfold OpenLaw.pre at hc
    have h4 : (WTm.not (.lt (.lit (.int (n : Int))) (.len (.arg 0)))).holds [] { args := [.list (ns.map .int)] } = true := by
      have h4 := (holds_andW hc).1
      rw [hn] at h4
      exact h4
    have h5 := condW_of h4 (w_not (w_lt w_lit (w_len_list (w_arg rfl))))
    rw [List.length_map] at h5
    refine Nat.le_of_not_lt fun q => ?_
    have q' : (n : Int) < ((ns.length : Nat) : Int) := by omega
    first
      | (rw [decide_eq_true q'] at h5; exact absurd h5 (by decide))
      | (simp at h5; omega)
  cases hwl with
  | cons w1 w2 =>
    cases w2
    cases w1 with
    | list ho hall => exact ⟨_, _, ns, rfl, rfl, ho, ints_of_wellAll ns _ hall, hlen⟩

theorem post_true (l : OpenLaw) (args : List WData) : l.row.toRowW.claim.post args (.bool true) args = true :=
  postW_of (r := l.row.toRowW) (X := (true == true))
    (show WShape.has [] (.bool true) .bool = true by first | rfl | decide | simp [WShape.has, WShape.arms, WShape.armsAll])
    (show (WTm.eq .res (.lit (.bool true))).value [] { args := args, res := some (.bool true), after := args } = some (.bool (true == true)) from w_eq_bool (w_res rfl) w_lit) rfl

/-! ### the attachment: holds_open's last premise (the goal 'hc' behind k_head) from a wpAny of the law's body -/
/-- the same from a codeAny of the CALL (for a layer whose function contracts speak of calls) -/
theorem attach_call {l : OpenLaw} {n : Nat} {q : Program} {loose : List Str} {XP : (Str → Option Value) → Heap → Prop} {YP : World → Heap → Prop} {d : DefRec}
    (hn : l.most = some n) (hdf : d.params.defaults = [])
    (call : ∀ (w : World) (s₀ s₁ : Shared) (mg mb : Str → Option Value) (fa : Addr) (o : Obj) (pm cd doc : Value) (a : Addr) (vs : List Value) (ns : List Int),
      Ground q loose [] XP w s₀ mg mb s₁.heap → YP w s₁.heap →
      s₁.heap.get? fa = some o → o.data = .func (docDef d.name d.params d.body d.scope pm cd doc) → s₁.heap.CodeRec cd d.name → mg d.name = some (.ref fa) →
      s₁.heap.get? a = some { cls := .type "list", data := .seq vs.toArray } → IntsAre vs ns → ns.length ≤ n → s₁.gens = #[] →
      codeAny (model l.prog w) callerA (.call (.ref fa) ⟨[.ref a], []⟩) (fun r s' => r = .ok (.ret (.bool true)) ∧ OldK s₁.heap s'.heap ∧ s'.os = s₁.os ∧ AllBare s'.gens) s₁) :
    WalkO q loose XP YP l.row.toRowW d [] (fun f vs => PySem.call f vs) := by
  intro w s₀ s₁ mg mb G Y fa o pm cd doc dV kV ho hd hcd hD hmg hg args vals as hpre hlay hrd hwl hlo
  obtain rfl : dV = .none := Dflts.none hD hdf
  obtain rfl : kV = .none := Dflts.noKw hD
  obtain ⟨a, vs, ns, rfl, rfl, hobj, hints, hlen⟩ := script_of hn hpre hwl
  refine enter_call (codeAny_mono (call w s₀ s₁ mg mb fa o pm cd doc a vs ns G Y ho (fd_plain hd) hcd hmg hobj hints hlen hg) fun r s' hq => ?_)
  obtain ⟨rfl, h2, h3, h4⟩ := hq
  exact ⟨.inl ⟨.bool true, .bool true, [], rfl, fun _ => rfl, .bool true, post_true l _, fun _ => ⟨List.Pairwise.nil, fun _ hm => (nomatch hm)⟩⟩, h2, h3, h4⟩

/-! ### rules over ANY heap (no ledger) from facts about the written part K: the library's own take a ledger (News) for what they write -/
section
variable {prog : Program} {w : World} {A : Around} {E : Value → Shared → Prop} {s : Shared} {K : Frag}

/-! the whole heap as the ledger: makes every rule that writes through a ledger a rule over any heap -/
end
end Att

namespace L2
open PySem PySem.Spec PyProof.Rows

theorem vals_ints : ∀ {vs : List Value} {ns : List Int}, IntsAre vs ns → Vals (ns.map V.int) vs
  | _, _, .nil => .nil
  | _, _, .cons n t h => .cons ⟨t, rfl⟩ (vals_ints h)

/-- nothing is tracked but the script, known to the object (or it is an object of the module) -/
def Only (H : Hp) : Prop := ∀ b, H b = none ∨ ∃ o xs, H b = some (.frz o (.lst xs))

/-- THE HEAD: the law's promise, at the heap behind the top. F, the promise of the law's def, may use that base is part of the heap (so K.In base, base.Ns mainGlobals mg stand in Mod) -/
theorem law_call {P : Program} {w : World} {K : PySem.W.Frag} {mg mb : Str → Option Value} {CX : CXT} {k : Nat} {fa a : Addr} {fd : FuncData} {x : Str} {sp : Sp} {s₁ : Shared} {vs : List Value} {ns : List Int}
    (KX : K.In s₁.heap) (hns : s₁.heap.Ns mainGlobals mg) (hb : s₁.heap.Ns builtinsNs mb) (hbb : ∀ x : Str, x ≠ "__name__" → mb x = bootBuiltins x) (hlim : s₁.heap.NoLimit) (hg : s₁.gens = #[])
    (ha : s₁.heap.get? a = some { cls := .type "list", data := .seq vs.toArray }) (hi : IntsAre vs ns) (hl : ns.length ≤ sizeLine) (hr : Room k callerA)
    (F : ∀ base : Heap, K.In base → base.Ns mainGlobals mg → FnOk P w K mg base CX k fa fd [x] sp) (hbind : ∀ (s : Shared) (u : Value), BindsTo s fd ⟨[u], []⟩ [(x, u)])
    (hsp : ∀ H : Hp, Only H → SqL K H a (ns.map V.int) → sp [.ref a] H (fun v _ => v = .bl true) fun _ _ _ => False)
    (hCX : ∀ H e s', CX [] H s₁ (fun _ _ _ => False) e s' → False) :
    codeAny (model P w) callerA (.call (.ref fa) ⟨[.ref a], []⟩) (fun r s' => r = .ok (.ret (.bool true)) ∧ OldK s₁.heap s'.heap ∧ s'.os = s₁.os ∧ AllBare s'.gens) s₁ := by
  have rv := vals_ints hi
  have lenV := hi.length
  -- from an abstract heap in which nothing but the script may be tracked
  have core : ∀ H : Hp, Only H → SqL K H a (ns.map V.int) → HOk P w H s₁.heap → (∀ b, H b ≠ none → b = a) → (H a ≠ none → K.lookup a = none) →
      codeAny (model P w) callerA (.call (.ref fa) ⟨[.ref a], []⟩) (fun r s' => r = .ok (.ret (.bool true)) ∧ OldK s₁.heap s'.heap ∧ s'.os = s₁.os ∧ AllBare s'.gens) s₁ := by
    intro H hO hS hok hA hK
    have base_of : ∀ {b : Addr} {o : Obj}, s₁.heap.get? b = some o → H b = none → (hidT s₁.heap H).get? b = some o := fun e n => hidT_get e n
    have noA : ∀ {b : Addr} {o : Obj} {es : Array DictEntry} {ep : Nat}, s₁.heap.get? b = some o → o.data = .dict es ep → H b = none := fun {b o es ep} e d => by
      cases q : H b with
      | none => rfl
      | some u =>
        have e' : b = a := hA b (by rw [q]; simp)
        subst e'
        rw [ha] at e; cases e
        have d' : Data.seq vs.toArray _ = Data.dict es ep := d
        cases d'
    have nsK : ∀ {b : Addr} {m : Str → Option Value}, s₁.heap.Ns b m → (hidT s₁.heap H).Ns b m := fun {b m} ⟨o, es, ep, e, d, r⟩ => ⟨o, es, ep, base_of e (noA e d), d, r⟩
    have hKb : K.In (hidT s₁.heap H) := fun b o e => base_of (KX b o e) (by
      cases q : H b with
      | none => rfl
      | some u =>
        have e' : b = a := hA b (by rw [q]; simp)
        subst e'
        rw [hK (by rw [q]; simp)] at e; cases e)
    have hM : Mod K mg (hidT s₁.heap H) := ⟨hKb, nsK hns, ⟨mb, nsK hb, hbb⟩, let ⟨mc, h1, h2⟩ := hlim; ⟨mc, nsK h1, h2⟩⟩
    have e0 : Env0 P w K mg (hidT s₁.heap H) callerA [] s₁ H := ⟨rfl, hM, fun b o e => of_hidT e, Nat.le_of_eq (hidT_size _ _), trivial, fun b hb => absurd (show b ∈ ([] : List Addr) from hb) (by simp), hok, .of_eq hg⟩
    refine codeAny_mono ((F _ hKb (nsK hns)).run callerA [] s₁ H ⟨[.ref a], []⟩ [.ref a] [.ref a] _ _ hr e0 (hbind s₁ (.ref a)) (.cons rfl .nil) (hsp H hO hS)) fun r s' h => ?_
    cases r with
    | error e => exact (hCX H e s' h).elim
    | ok fl =>
      cases fl with
      | next => exact False.elim h
      | brk => exact False.elim h
      | cont => exact False.elim h
      | ret u =>
        obtain ⟨v, H', os, bare, un, hok', r', q⟩ := h
        have q' : v = .bl true := q
        subst q'
        obtain rfl : u = Value.bool true := r'
        refine ⟨rfl, OldK.of_keep fun b o e => ?_, os, bare⟩
        cases q : H b with
        | none => exact un.keep b o e q (by intro z; exact absurd (show b ∈ ([] : List Addr) from z) (by simp)) (by simp)
        | some u =>
          rcases hO b with z | ⟨ob, xs, z⟩
          · rw [q] at z; cases z
          · have z2 := un.frzs b ob _ z
            obtain ⟨e1, _⟩ := hok b _ z
            obtain ⟨e2, _⟩ := hok' b _ z2
            rw [e] at e1; cases e1
            exact e2
  cases hk : K.lookup a with
  | some o =>
    -- the script is one of the module's own objects
    have e := KX a o hk
    rw [ha] at e
    cases e
    refine core (fun _ => none) (fun _ => .inl rfl) (.inr ⟨_, vs.toArray, _, hk, rfl, rfl, rfl, by rw [List.size_toArray, lenV]; exact hl, by simpa using rv⟩) (fun b u z => by have z' : (none : Option HO) = some u := z; cases z') (fun b z => absurd rfl z) fun z => absurd rfl z
  | none =>
    refine core (fun b => if b = a then some (.frz { cls := .type "list", data := .seq vs.toArray } (.lst (ns.map V.int))) else none) (fun b => ?_) (.inl (.inr ⟨{ cls := .type "list", data := .seq vs.toArray }, if_pos rfl⟩)) (fun b u z => ?_) (fun b z => ?_) fun _ => hk
    · by_cases hb : b = a
      · exact .inr ⟨_, _, if_pos hb⟩
      · exact .inl (if_neg hb)
    · by_cases hb : b = a
      · have z' := (if_pos hb).symm.trans z
        cases z'
        subst hb
        exact ⟨ha, by rw [List.length_map]; exact hl, vs, _, rv, ha⟩
      · have z' := (if_neg hb).symm.trans z
        cases z'
    · by_cases hb : b = a
      · exact hb
      · exact absurd (if_neg hb) z
end L2

namespace L2
open PySem PySem.Spec PyProof.Rows

/-- the goal that k_head leaves (case hc), from the law's promise. F gives the function object fd (K's own) once, then the promise over every base -/
theorem walk_of {l : PySem.W.OpenLaw} {n k : Nat} {q : Program} {loose : List Str} {XP : (Str → Option Value) → Heap → Prop} {YP : World → Heap → Prop} {d : DefRec} {K : Params → PySem.W.Frag} {CX : World → CXT} {sp : World → Sp} {x : Str}
    (hn : l.most = some n) (hn2 : n ≤ sizeLine) (hdf : d.params.defaults = []) (hr : Room k callerA)
    (hY : ∀ (w : World) (h : Heap), YP w h → (K w.params).In h)
    (F : ∀ (w : World) (mg : Str → Option Value) (fa : Addr) (h : Heap), (K w.params).In h → h.Ns mainGlobals mg → mg d.name = some (.ref fa) →
      ∃ fd : FuncData, (∀ (s : Shared) (u : Value), BindsTo s fd ⟨[u], []⟩ [(x, u)]) ∧
        ∀ base : Heap, (K w.params).In base → base.Ns mainGlobals mg → FnOk l.prog w (K w.params) mg base (CX w) k fa fd [x] (sp w))
    (hsp : ∀ (w : World) (H : Hp) (a : Addr) (ns : List Int), ns.length ≤ n → Only H → SqL (K w.params) H a (ns.map V.int) → sp w [.ref a] H (fun v _ => v = .bl true) fun _ _ _ => False)
    (hCX : ∀ (w : World) (H : Hp) (s : Shared) (e : Value) (s' : Shared), CX w [] H s (fun _ _ _ => False) e s' → False) :
    PySem.W.WalkO q loose XP YP l.row.toRowW d [] (fun f vs => PySem.call f vs) := by
  refine Att.attach_call hn hdf fun w s₀ s₁ mg mb fa o pm cd doc a vs ns G Y ho hd hcd hmg hobj hints hlen hg => ?_
  have KX := hY w _ Y
  obtain ⟨fd, hb, hF⟩ := F w mg fa _ KX G.T.g hmg
  exact law_call KX G.T.g G.T.b G.T.builtins G.T.nolimit hg hobj hints (Nat.le_trans hlen hn2) hr hF hb (fun H hO hS => hsp w H a ns hlen hO hS) fun H e s' => hCX w H s₁ e s'
end L2

/- THE LAST THEOREM (shape; LID, My.* are yours):
   My.Adr: a structure of the addresses that your layer names (classes, functions); My.Txt K t: a structure (Prop) of the equations over K;
   My.txt_mk : {K} {implicit addresses ..} (e1 : nsIn K mainGlobals "law" = some (some (.ref f))) (e2 : K.lookup f = some ⟨oc, od, .func (fnOf "law" "law" params body scope dV kV doc pm an cdv ct), sl⟩) (e3 : codeIn K cdv "law" = true) .. : ∃ t, My.Txt K t

set_option maxRecDepth 100000 in
set_option maxHeartbeats 0 in
theorem PySem.Challenge.cw_LID_holds : PySem.Challenge.rw_LID.Holds := by
  w_on; o_law; k_head; (case hw => w_witness2)
  k_fill
  refine L2.walk_of (l := PySem.Challenge.rw_LID) (n := 63) (k := 40) (x := "script") (CX := fun w => ..) (sp := fun _ => My.sp_law) rfl (by decide) rfl ⟨rfl, by decide, by decide⟩ (fun w h Y => PySem.W.kIn_of Y) ?F ?S ?C
  case F =>
    intro w mg fa h KX G hmg
    have T : ∃ t, My.Txt (L2.KOf KX) t := by
      dsimp only [L2.KOf]                          -- K must stand as «<heap const> w.params» for k_is
      refine' My.txt_mk ?e1 ?e2 ?e3 ..
      (case e1 => PySem.W.k_is)                    -- in the order: a name -> its address -> its object -> its parts
      (case e2 => PySem.W.k_is)
      ..
    obtain ⟨t, T⟩ := T
    have e0 := hmg.symm.trans (PySem.W.mg_of KX G T.law)
    cases e0                                       -- fa is the law's own address
    exact ⟨_, fun s u => .of_eq rfl, fun base kb nb => My.law_fn T kb nb⟩     -- if «.of_eq rfl» comes too early: refine' ⟨_, ?b, fun base kb nb => My.law_fn T kb nb⟩; exact fun s u => .of_eq rfl
  case S => exact fun w H a ns hl hO hS => ..
  case C => exact ..
(the tactic k_is has no namespace: write k_is) -/

/-! SHORT WORDS over the layer: a def of the text, its body, what a loop and a test want. -/
namespace L2
open PySem PySem.Spec PyProof.Rows

/-! ### the text by places -/
def defArgs (s : Stmt) : Arguments := match s with
  | .FunctionDef _ a _ _ _ _ _ _ _ _ => a
  | _ => { posonlyargs := [], args := [], vararg := none, kwonlyargs := [], kw_defaults := [], kwarg := none, defaults := [] }
def defBody (s : Stmt) : List Stmt := match s with
  | .FunctionDef _ _ b _ _ _ _ _ _ _ => b
  | _ => []
def defScope (s : Stmt) : Scope := match s with
  | .FunctionDef _ _ _ _ _ _ sc _ _ _ => sc
  | _ => { kind := .function, names := [], isGenerator := false, isCoroutine := false }

/-! ### no exception leaves a def -/
abbrev CX0 : CXT := fun _ _ _ _ _ _ => False
abbrev E0 : XK := fun _ _ _ => False
theorem pass0 {X : Cx} : Passes CX0 X E0 := fun _ _ _ _ _ _ _ h => h.elim

/-! ### a def (or method) of the text as it stands behind the top -/
structure Fun (K : PySem.W.Frag) (x qual : Str) (st : Stmt) (f : Addr) (fd : FuncData) : Prop where
  ex : ∃ (oc : Value) (od : Option Addr) (kV doc pm : Value) (an : Option Addr) (cdv ct : Value) (osl : Array (Option Value)),
    fd = PySem.W.fnOf x qual (defArgs st) (defBody st) (defScope st) .none kV doc pm an cdv ct ∧ K.lookup f = some ⟨oc, od, .func fd, osl⟩ ∧ PySem.W.codeIn K cdv qual = true
  kp : PySem.W.keepIn K (.ref f) = true
section
variable {P : Program} {w : World} {K : PySem.W.Frag} {mg : Str → Option Value} {base : Heap}
/-- THE RULE for a def: its body as a term of rules, and the reading of that term -/
theorem Fun.ok {x qual : Str} {st : Stmt} {f : Addr} {fd : FuncData} {N ps : List Str} {k : Nat} {sp : Sp} (F : Fun K x qual st f fd) (S : FnScope N ps (defScope st)) (len : ∀ vs H Q E, sp vs H Q E → vs.length = ps.length)
    (hbody : ∀ (cdv : Value) (A : Around) (outer : List Env) (s : Shared) (H : Hp) (vs : List V) (Q : VK) (E : XK), Room k (A.deeper (envOfC qual (defScope st) s.heap.objs.size f cdv)) → sp vs H Q E →
      ∃ t, PSs (cxOf CX0 P w K mg base N qual (defScope st) f cdv A outer s H E).nox (defBody st) t ∧ t { nx := fun _ H' => Q .non H', rt := Q } (start N vs) H) : FnOk P w K mg base CX0 (k + 1) f fd ps sp := by
  obtain ⟨oc, od, kV, doc, pm, an, cdv, ct, osl, rfl, lk, hcd⟩ := F.ex
  refine fn_of lk hcd S len fun A outer s H vs Q E hr hsp => ?_
  obtain ⟨t, h, q⟩ := hbody cdv A outer s H vs Q E hr hsp
  exact ⟨t, h.nox, q⟩
/-- how its arguments bind (no defaults): h is «fun _ _ _ _ _ _ us hl => match us, hl with | [_, _], _ => rfl», one _ a parameter -/
theorem Fun.binds {x qual : Str} {st : Stmt} {f : Addr} {fd : FuncData} {ps : List Str} (F : Fun K x qual st f fd)
    (h : ∀ (kV doc pm : Value) (an : Option Addr) (cdv ct : Value) (us : List Value), us.length = ps.length → bindArgs (PySem.W.fnOf x qual (defArgs st) (defBody st) (defScope st) .none kV doc pm an cdv ct) ⟨us, []⟩ = pure (ps.zip us)) : Binds K fd ps [] := by
  obtain ⟨oc, od, kV, doc, pm, an, cdv, ct, osl, rfl, lk, hcd⟩ := F.ex
  exact .all (h kV doc pm an cdv ct)
theorem fun_mk {x qual : Str} {st : Stmt} {f : Addr} {oc : Value} {od an : Option Addr} {osl : Array (Option Value)} {kV doc pm cdv ct : Value} (l : K.lookup f = some ⟨oc, od, .func (PySem.W.fnOf x qual (defArgs st) (defBody st) (defScope st) .none kV doc pm an cdv ct), osl⟩)
    (c : PySem.W.codeIn K cdv qual = true) (k : PySem.W.keepIn K (.ref f) = true) : Fun K x qual st f (PySem.W.fnOf x qual (defArgs st) (defBody st) (defScope st) .none kV doc pm an cdv ct) := ⟨⟨oc, od, kV, doc, pm, an, cdv, ct, osl, rfl, l, c⟩, k⟩
end
/-! ### expressions in short: the name that stands in the i-th slot -/
section
variable {X : Cx}
theorem pv (i : Nat) {x : Str} {pos : Pos} (hN : X.N[i]? = some x := by rfl) (hv : Vis X.env.scope x := by first | exact Or.inl rfl | exact Or.inr (Or.inl rfl) | exact Or.inr (Or.inr rfl)) (hd : (x == ("__debug__" : Str)) = false := by decide)
    (hcd : (x == ("__classdict__" : Str)) = false := by decide) : PE X (.Name x pos) (tVar i) := pe_var hN hv hd hcd
end

/-! ### tests -/
theorem iteF {A B : Prop} (h : B) : if false = true then A else B := by
  rw [if_neg Bool.false_ne_true]
  exact h
theorem iteT {A B : Prop} (h : A) : if true = true then A else B := by
  rw [if_pos rfl]
  exact h
theorem ite2 {c A B : Prop} [Decidable c] (h1 : c → A) (h2 : ¬ c → B) : if c then A else B := by
  by_cases h : c
  · rw [if_pos h]
    exact h1 h
  · rw [if_neg h]
    exact h2 h
theorem iteNS {c A B : Prop} [Decidable c] (hc : c) (h : B) : if (!decide c) = true then A else B := by
  rw [decide_eq_true hc]
  exact iteF h

/-! ### heaps -/
/-- all that was tracked is as it was -/
def Same (H H' : Hp) : Prop := ∀ b o, H b = some o → H' b = some o
theorem Same.refl (H : Hp) : Same H H := fun _ _ h => h
theorem Same.trans {H H1 H2 : Hp} (a : Same H H1) (b : Same H1 H2) : Same H H2 := fun c o h => b c o (a c o h)
theorem Same.free {H H' : Hp} (e : Same H H') {l : Addr} (h : H' l = Option.none) : H l = Option.none := by
  cases q : H l with
  | none => rfl
  | some o =>
    rw [e l o q] at h
    cases h
theorem Same.seq {K : PySem.W.Frag} {H H' : Hp} {a : Addr} {xs : List V} (e : Same H H') (h : SqL K H a xs) : SqL K H' a xs := by
  rcases h with (h | ⟨o, h⟩) | h
  · exact .inl (.inl (e _ _ h))
  · exact .inl (.inr ⟨o, e _ _ h⟩)
  · exact .inr h

end L2

set_option maxHeartbeats 4000000
set_option Elab.async false
set_option linter.all false
set_option maxRecDepth 100000
set_option maxHeartbeats 4000000
namespace Tw
open PySem L2
/-! what all laws use: a def of the text, heaps -/
theorem same_new {H : Hp} {p : Addr} (h : H p = none) (o : HO) : Same H (upd H p o) := fun b u q => by rw [upd_ne (ne_of_none q h)]; exact q
theorem same_set {H H' : Hp} {p : Addr} (s : Same H H') (h : H p = none) (o : HO) : Same H (upd H' p o) := fun b u q => by rw [upd_ne (ne_of_none q h)]; exact s b u q
theorem small {n : Nat} (h : n ≤ 4097) : n < sizeLine := Nat.lt_of_le_of_lt h (by decide)
theorem bt_len : bootBuiltins "len" = some (.builtin "len") := by decide +kernel
theorem bt_sum : bootBuiltins "sum" = some (.builtin "sum") := by decide +kernel
theorem bt_isinstance : bootBuiltins "isinstance" = some (.builtin "isinstance") := by decide +kernel
theorem bt_min : bootBuiltins "min" = some (.builtin "min") := by decide +kernel
theorem bt_int : bootBuiltins "int" = some (.type "int") := by decide +kernel
theorem bt_bool : bootBuiltins "bool" = some (.type "bool") := by decide +kernel
theorem bt_list : bootBuiltins "list" = some (.type "list") := by decide +kernel
theorem bt_tuple : bootBuiltins "tuple" = some (.type "tuple") := by decide +kernel
theorem bt_reversed : bootBuiltins "reversed" = some (.type "reversed") := by decide +kernel
theorem bt_zip : bootBuiltins "zip" = some (.type "zip") := by decide +kernel
/-- slices of lists of ints by natural numbers -/
theorem cut_nat (ns : List Int) (i j : Nat) : cutV (ns.map V.int) (some (i : Int)) (some (j : Int)) = ((ns.drop i).take (j - i)).map V.int := by
  unfold cutV
  rw [HT.sIx_nat, HT.sIx_nat, List.map_take, List.map_drop, List.length_map]
  rcases Nat.lt_or_ge ns.length i with h | h
  · rw [Nat.min_eq_right (Nat.le_of_lt h), List.drop_of_length_le (by simp), List.drop_of_length_le (by simp; omega)]
    simp
  · rw [Nat.min_eq_left h]
    rcases Nat.lt_or_ge ns.length j with q | q
    · rw [Nat.min_eq_right (Nat.le_of_lt q), List.take_of_length_le (by simp), List.take_of_length_le (by simp; omega)]
    · rw [Nat.min_eq_left q]
theorem cut_to (ns : List Int) (j : Nat) : cutV (ns.map V.int) none (some (j : Int)) = (ns.take j).map V.int := by
  unfold cutV
  rw [HT.sIx_nat, HT.sIx_none, List.map_take, List.length_map, List.drop_zero, Nat.sub_zero]
  rcases Nat.lt_or_ge ns.length j with q | q
  · rw [Nat.min_eq_right (Nat.le_of_lt q), List.take_of_length_le (by simp), List.take_of_length_le (by simp; omega)]
  · rw [Nat.min_eq_left q]
theorem cut_from (ns : List Int) (i : Nat) : cutV (ns.map V.int) (some (i : Int)) none = (ns.drop i).map V.int := by
  unfold cutV
  rw [HT.sIx_nat, HT.sIx_none, List.map_drop, List.length_map]
  rcases Nat.lt_or_ge ns.length i with h | h
  · rw [Nat.min_eq_right (Nat.le_of_lt h), List.drop_of_length_le (by simp), List.drop_of_length_le (by simp; omega)]
    simp
  · rw [Nat.min_eq_left h, List.take_of_length_le (by simp)]
/-- an item of a list of ints -/
theorem int_at {ns : List Int} {i : Nat} {x : V} (h : (ns.map V.int)[i]? = some x) : ∃ c, ns[i]? = some c ∧ x = .int c := by
  rw [List.getElem?_map] at h
  cases e : ns[i]? with
  | none => rw [e] at h; cases h
  | some c => rw [e] at h; exact ⟨c, rfl, (Option.some.inj h).symm⟩
theorem atI_int {ns : List Int} {i : Nat} {c : Int} (h : ns[i]? = some c) : atI (ns.map V.int) (i : Int) = some (.int c) := atI_nat (by rw [List.getElem?_map, h]; rfl)
structure Df (K : PySem.W.Frag) (mg : Str → Option Value) (x : Str) (st : Stmt) (ps : List Str) (f : Addr) (fd : FuncData) : Prop where
  F : Fun K x x st f fd
  b : Binds K fd ps []
  m : mg x = some (.ref f)
end Tw

set_option Elab.async false
set_option linter.all false
set_option maxRecDepth 100000
set_option maxHeartbeats 4000000
namespace Tw
/-- bit k of a block -/
def bit (b : Int) (k : Nat) : Int := b / 2 ^ k % 2
/-- the first n bits -/
def bits (b : Int) (n : Nat) : List Int := (List.range n).map (bit b)
/-- the ones among the first n bits -/
def ones (b : Int) (n : Nat) : Int := (bits b n).sum
theorem bits_length (b : Int) (n : Nat) : (bits b n).length = n := by simp [bits]
theorem bits_succ (b : Int) (n : Nat) : bits b (n + 1) = bits b n ++ [bit b n] := by simp [bits, List.range_succ]
theorem ones_zero (b : Int) : ones b 0 = 0 := rfl
theorem ones_succ (b : Int) (n : Nat) : ones b (n + 1) = ones b n + bit b n := by
  unfold ones; rw [bits_succ]; simp
theorem bits_get {b : Int} {n k : Nat} (h : k < n) : (bits b n)[k]? = some (bit b k) := by simp [bits, h]
theorem half_half (b : Int) (k : Nat) : b / 2 ^ k / 2 = b / 2 ^ (k + 1) := by
  rw [Int.ediv_ediv_of_nonneg (Int.pow_nonneg (by decide)), Int.pow_succ]
end Tw

set_option Elab.async false
set_option linter.all false
set_option maxRecDepth 100000
set_option maxHeartbeats 4000000
namespace Tw
/-! rows of bits, blocks, nets: the plain mathematics -/
def IsBits (ns : List Int) : Prop := ∀ b ∈ ns, b = 0 ∨ b = 1
theorem IsBits.tail {b : Int} {ns : List Int} (h : IsBits (b :: ns)) : IsBits ns := fun x hx => h x (.tail _ hx)
theorem IsBits.head {b : Int} {ns : List Int} (h : IsBits (b :: ns)) : b = 0 ∨ b = 1 := h b (.head _)
theorem IsBits.take {ns : List Int} (h : IsBits ns) (k : Nat) : IsBits (ns.take k) := fun x hx => h x (List.mem_of_mem_take hx)
theorem IsBits.drop {ns : List Int} (h : IsBits ns) (k : Nat) : IsBits (ns.drop k) := fun x hx => h x (List.mem_of_mem_drop hx)
/-- the block of a list of bits -/
def blk : List Int → Int
  | [] => 0
  | b :: r => 2 * blk r + b
theorem blk_nonneg : ∀ {ns : List Int}, IsBits ns → 0 ≤ blk ns
  | [], _ => by simp [blk]
  | b :: r, h => by
    have := blk_nonneg h.tail
    have := h.head
    simp only [blk]
    omega
theorem bit_zero (b : Int) : bit b 0 = b % 2 := by simp [bit]
theorem bit_succ' (b : Int) (k : Nat) : bit b (k + 1) = bit (b / 2) k := by
  unfold bit
  rw [Int.ediv_ediv_of_nonneg (by decide), ← Int.pow_succ']
theorem bit_blk : ∀ {ns : List Int}, IsBits ns → ∀ k : Nat, bit (blk ns) k = (ns[k]?).getD 0
  | [], _, k => by simp [blk, bit]
  | b :: r, h, 0 => by
    have := h.head
    rw [bit_zero]
    simp only [blk, List.getElem?_cons_zero, Option.getD_some]
    omega
  | b :: r, h, k + 1 => by
    have hb := h.head
    rw [bit_succ', List.getElem?_cons_succ]
    have e : blk (b :: r) / 2 = blk r := by simp only [blk]; omega
    rw [e]
    exact bit_blk h.tail k
theorem ones_blk {ns : List Int} (h : IsBits ns) : ∀ k : Nat, ones (blk ns) k = (ns.take k).sum
  | 0 => by simp [ones_zero]
  | k + 1 => by
    rw [ones_succ, ones_blk h k, bit_blk h]
    by_cases hk : k < ns.length
    · rw [List.take_add_one, List.getElem?_eq_getElem hk]
      simp only [Option.toList_some, List.sum_append, List.sum_cons, List.sum_nil, Option.getD_some]
      omega
    · rw [List.take_of_length_le (by omega), List.take_of_length_le (by omega), List.getElem?_eq_none (by omega)]
      simp
/-- how many blocks n bits have -/
def many (n : Nat) : Nat := (n + 31) / 32
/-- block j of a row -/
def blkAt (ns : List Int) (j : Nat) : Int := blk ((ns.drop (32 * j)).take 32)
def packs (ns : List Int) : List Int := (List.range (many ns.length)).map (blkAt ns)
theorem packs_length (ns : List Int) : (packs ns).length = many ns.length := by simp [packs]
theorem packs_get {ns : List Int} {j : Nat} (h : j < many ns.length) : (packs ns)[j]? = some (blkAt ns j) := by simp [packs, h]
theorem seg_bits {ns : List Int} (h : IsBits ns) (j : Nat) : IsBits ((ns.drop (32 * j)).take 32) := (h.drop _).take _
theorem bit_at {ns : List Int} (h : IsBits ns) (j k : Nat) (hk : k < 32) : bit (blkAt ns j) k = (ns[32 * j + k]?).getD 0 := by
  unfold blkAt
  rw [bit_blk (seg_bits h j), List.getElem?_take_of_lt hk, List.getElem?_drop]
/-- the net of the first k bits -/
def net (b : Int) (k : Nat) : Int := 2 * ones b k - k
theorem net_zero (b : Int) : net b 0 = 0 := by simp [net, ones_zero]
theorem net_succ (b : Int) (k : Nat) : net b (k + 1) = net b k + 2 * bit b k - 1 := by
  unfold net
  rw [ones_succ]
  omega
/-- the nets of the first 1, .. n bits -/
def nets (b : Int) (n : Nat) : List Int := (List.range n).map fun k => net b (k + 1)
theorem nets_length (b : Int) (n : Nat) : (nets b n).length = n := by simp [nets]
theorem nets_succ (b : Int) (n : Nat) : nets b (n + 1) = nets b n ++ [net b (n + 1)] := by simp [nets, List.range_succ]
theorem mem_nets {b : Int} {n : Nat} {x : Int} : x ∈ nets b n ↔ ∃ k, 1 ≤ k ∧ k ≤ n ∧ x = net b k := by
  unfold nets
  rw [List.mem_map]
  constructor
  · rintro ⟨k, hk, rfl⟩
    exact ⟨k + 1, by omega, by have := List.mem_range.mp hk; omega, rfl⟩
  · rintro ⟨k, h1, h2, rfl⟩
    refine ⟨k - 1, List.mem_range.mpr (by omega), ?_⟩
    have e : k - 1 + 1 = k := by omega
    rw [e]
/-- the height at a place of a row -/
def ht (ns : List Int) (k : Nat) : Int := 2 * (ns.take k).sum - k
theorem ht_zero (ns : List Int) : ht ns 0 = 0 := by simp [ht]
theorem ht_succ {ns : List Int} {k : Nat} {b : Int} (h : ns[k]? = some b) : ht ns (k + 1) = ht ns k + 2 * b - 1 := by
  unfold ht
  rw [List.take_add_one, h]
  simp only [Option.toList_some, List.sum_append, List.sum_cons, List.sum_nil]
  omega
theorem sum_take_add (ns : List Int) (a k : Nat) : (ns.take (a + k)).sum = (ns.take a).sum + ((ns.drop a).take k).sum := by
  rw [List.take_add, List.sum_append]
theorem ht_block {ns : List Int} (h : IsBits ns) (j k : Nat) (hk : k ≤ 32) : ht ns (32 * j + k) = ht ns (32 * j) + net (blkAt ns j) k := by
  unfold ht net blkAt
  rw [ones_blk (seg_bits h j), sum_take_add, List.take_take, Nat.min_eq_left hk]
  omega
theorem ones_blkAt {ns : List Int} (h : IsBits ns) (j k : Nat) (hk : k ≤ 32) : ones (blkAt ns j) k = ((ns.drop (32 * j)).take k).sum := by
  unfold blkAt
  rw [ones_blk (seg_bits h j), List.take_take, Nat.min_eq_left hk]
theorem sum_block {ns : List Int} (h : IsBits ns) (j k : Nat) (hk : k ≤ 32) : (ns.take (32 * j)).sum + ones (blkAt ns j) k = (ns.take (32 * j + k)).sum := by
  rw [ones_blkAt h j k hk, sum_take_add]
/-! blocks again -/
end Tw

set_option Elab.async false
set_option linter.all false
set_option maxRecDepth 100000
set_option maxHeartbeats 4000000
namespace L2
open PySem PySem.Spec PyProof.Rows

/-! ### two iterator records turn, a new object is laid and tracked -/
section
variable {X : Cx} {pins : List (Addr × Obj)} {σ : St} {H : Hp} {s : Shared} {h' : Heap}
theorem Inv.turn2 {e it p : Addr} {o : HO} {t' : Nat} (I : Inv X pins σ H s) (fe : FpOk X pins H e) (fi : FpOk X pins H it)
    (k : ∀ b u, b ≠ e → b ≠ it → s.heap.get? b = some u → h'.get? b = some u) (hp : s.heap.objs.size ≤ p)
    (new : ObjOk X.prog X.w (upd H p o) h' p o) : Inv X pins σ (upd H p o) { s with heap := h', toks := t' } := by
  have hn := I.hok.fresh hp
  have ne : ∀ b u, H b = some u → b ≠ e := fun b u q z => by rw [z, fe.1] at q; cases q
  have ni : ∀ b u, H b = some u → b ≠ it := fun b u q z => by rw [z, fi.1] at q; cases q
  have up : ∀ b u, H b = some u → upd H p o b = some u := fun b u q => by rw [upd_ne (ne_of_none q hn)]; exact q
  have k' : ∀ b u, b ∉ [e, it] → s.heap.get? b = some u → h'.get? b = some u := fun b u hb q => k b u (fun z => hb (by simp [z])) (fun z => hb (by simp [z])) q
  refine I.step (g' := s.gens) (d' := s.drawn) (ch := [e, it]) (fun b hb => ?_) (fun b u _ _ hx q _ => k' b u hx q) (fun b u _ _ hx q _ => ⟨u.slots, k' b u hx q⟩)
    (fun b u _ q n => by rw [upd_ne (Nat.ne_of_lt (Nat.lt_of_lt_of_le (Heap.lt_size q) hp))]; exact n) (fun b u hx q => ⟨u, k' b u hx q⟩)
    (fun b xs q => up _ _ q) (fun b ob u q => up _ _ q) (fun b ps q => ⟨#[], by rw [up _ _ q]; simp⟩) (fun m hm => ?_) (fun b u q => ?_) I.bare
  · rcases List.mem_cons.mp hb with rfl | hb
    · exact ⟨fe.2.2.2.1, fe.2.1, fe.2.2.2.2.1, fe.2.2.2.2.2⟩
    · rw [List.mem_singleton.mp hb]
      exact ⟨fi.2.2.2.1, fi.2.1, fi.2.2.2.2.1, fi.2.2.2.2.2⟩
  · obtain ⟨ob, es, ep, ho, r⟩ := hm
    exact ⟨ob, es, ep, k _ ob (Ne.symm fe.2.1) (Ne.symm fi.2.1) ho, r⟩
  · by_cases hb : b = p
    · subst hb
      rw [upd_same] at q
      cases q
      exact new
    · rw [upd_ne hb] at q
      refine (I.hok b u q).stay (fun c v hc r => k c v ?_ ?_ r) (fun c r => up _ _ r) fun c xs r => up _ _ r
      · rcases hc with rfl | z
        · exact ne _ _ q
        · exact ne _ _ z
      · rcases hc with rfl | z
        · exact ni _ _ q
        · exact ni _ _ z
end

/-! ### enumerate(xs) of a list, two names in the target -/
/-- at turn i a new tuple of the place and the item -/
def Ite (K : PySem.W.Frag) (a : Addr) : It :=
  ⟨fun i H => ∃ xs x, SqL K H a xs ∧ xs[i]? = some x, fun i H x H' => ∃ p y, H p = none ∧ x = .ref p ∧ H' = upd H p (.tup [.int (i : Int), y]) ∧ ∀ xs, SqL K H a xs → xs[i]? = some y,
   fun i H => ∃ xs, SqL K H a xs ∧ xs.length ≤ i⟩
theorem turn_enum {P : Program} {w : World} {K : PySem.W.Frag} {elts : List Expr} {x1 : Nat} {tpos : Pos} (a e it : Addr) (hne : e ≠ it) :
    Turn P w K (.Tuple elts x1 tpos) (Ite K a) [e, it] e (fun i h => (∃ old, IsEnum h e it (i : Nat) old) ∧ h.IsListIter it a i) where
  mem := by simp
  obj := fun i h st b hb => by
    obtain ⟨⟨old, he⟩, o, ho, hc, hd⟩ := st
    rcases List.mem_cons.mp hb with rfl | hb
    · exact ⟨_, he, fun v z => by cases z⟩
    · rw [List.mem_singleton.mp hb]
      exact ⟨o, ho, fun v z => by rw [hd] at z; cases z⟩
  keep := fun i h h' st k => by
    obtain ⟨⟨old, he⟩, st⟩ := st
    exact ⟨⟨old, k e (by simp) _ he⟩, st.at fun o q => k it (by simp) o q⟩
  item := by
    intro X hP hw hK hc i pins s σ H E I hf st hg
    subst hP hw hK
    obtain ⟨xs, x, hq, hx⟩ := hg
    obtain ⟨its, rv, p, hz⟩ := I.list hq
    obtain ⟨u, hu, ru⟩ := rv.get hx
    obtain ⟨⟨old, he⟩, st⟩ := st
    refine wpAny_pyNext_enum_item he st p.isList (x := u) (by simpa using hu) hne fun h1 heo hit1 ht1 hz1 hk1 => ?_
    refine ⟨_, rfl, wpAny_letOwnedTupleGo_enum heo fun h2 he2 hs2 => ?_⟩
    have ee : e < s.heap.objs.size := Heap.lt_size he
    have g2 : h2.get? s.heap.objs.size = some { cls := .type "tuple", data := .seq #[.int (i : Int) s.toks, u] } := (hs2.2 _ (Nat.ne_of_gt ee)).trans ht1
    have kk : ∀ b o, b ≠ e → b ≠ it → s.heap.get? b = some o → h2.get? b = some o := fun b o h3 h4 q => (hs2.2 b h3).trans (hk1 b o h3 h4 q)
    have new : ObjOk X.prog X.w (upd H s.heap.objs.size (.tup [.int (i : Int), x])) h2 s.heap.objs.size (.tup [.int (i : Int), x]) :=
      ⟨(by show 2 ≤ sizeLine; decide), [.int (i : Int) s.toks, u], .cons ⟨_, rfl⟩ (.cons ru .nil), _, g2, rfl, _, rfl⟩
    have I2 := I.turn2 (h' := h2) (t' := s.toks + 1) (hf e (by simp)) (hf it (by simp)) kk (Nat.le_refl _) new
    have hn : H s.heap.objs.size = none := I.hok.fresh (Nat.le_refl _)
    refine ⟨.ref s.heap.objs.size, _, I2, rfl, ⟨_, x, hn, rfl, rfl, fun ys hy => by rw [I.list_inj hy hq]; exact hx⟩, ⟨⟨u, by simpa using he2⟩, hit1.extBut hs2.extBut (Ne.symm hne)⟩, fun b hb => ?_⟩
    have hbn := (hf b hb).1
    have hbs : b ≠ s.heap.objs.size := by
      obtain ⟨o, hio, _⟩ := st
      rcases List.mem_cons.mp hb with rfl | hb
      · exact Nat.ne_of_lt ee
      · rw [List.mem_singleton.mp hb]
        exact Nat.ne_of_lt (Heap.lt_size hio)
    rw [upd_ne hbs]
    exact hbn
  done := by
    intro X hP hw hK hc i pins s σ H E I hf st hg
    subst hP hw hK
    obtain ⟨xs, hq, hx⟩ := hg
    obtain ⟨its, rv, p, hz⟩ := I.list hq
    obtain ⟨f0, f1, f2, f3, f4, f5⟩ := hf it (by simp)
    obtain ⟨⟨old, he⟩, st⟩ := st
    have hl := rv.length
    exact wpAny_pyNext_enum_end (I.ok.hd hc) he st p.isList (by simp; omega) fun h' eb => ⟨rfl, I.turned (t' := s.toks) (fun b o hb q => eb b o hb q) f0 f1 f3 f4 f5⟩
  self := fun _ _ _ _ _ st h => by
    obtain ⟨⟨old, he⟩, _⟩ := st
    exact wpAny_pyIter_enum he h
section
variable {X : Cx}
def iEnum (K : PySem.W.Frag) (ta : TA) : TI := fun σ H R => ta σ H fun vs H1 => ∃ a xs, vs = [.ref a] ∧ SqL K H1 a xs ∧ R (Ite K a) H1
theorem pi_enum {a : Expr} {ta : TA} {p pos : Pos} {elts : List Expr} {x1 : Nat} {tpos : Pos} (hg : Gl X "enumerate") (hm : X.mg "enumerate" = none) (ha : PA X [a] ta) (hs : starEach [a] X.env = [(false, eval a X.env)] := by rfl) :
    PI X (.Tuple elts x1 tpos) (.Call (.Name "enumerate" p) [a] [] pos) (iEnum X.K ta) := by
  intro pins s σ H R I h
  refine Call_ (ld_blt I hg hm boot_enumerate (PyProof.Rows.callWith_type1 (thn (ha pos pins s σ H _ I h) fun us s1 ⟨vs, H1, I1, r1, q1⟩ => ?_) hs rfl))
  obtain ⟨b, xs, e, hq, q⟩ := q1
  subst e
  obtain ⟨u, rfl, rx⟩ := vals1 r1
  cases rx
  obtain ⟨its, rv, pl, hz⟩ := I1.list hq
  refine call_enumerate_list pl.isList fun h' he hit hsz hk => ?_
  refine wpAny_pyIter_enum he ?_
  have I2 : Inv X pins σ H1 { s1 with heap := h' } := I1.kept (t' := s1.toks) hk
  have ne : s1.heap.objs.size + 1 ≠ s1.heap.objs.size := by omega
  refine ⟨s1.heap.objs.size + 1, [s1.heap.objs.size + 1, s1.heap.objs.size], _, Ite X.K b, H1, rfl, I2, turn_enum b _ _ ne, ⟨⟨_, he⟩, hit⟩, fun c hc => ?_, q⟩
  have hle : s1.heap.objs.size ≤ c := by
    rcases List.mem_cons.mp hc with rfl | hc
    · omega
    · rw [List.mem_singleton.mp hc]
      omega
  exact I1.fpOk hle (I1.hok.fresh hle)
end
/-- over enumerate of a list that the body leaves as it is -/
theorem for_enum {K : PySem.W.Frag} {a : Addr} {xs : List V} {g : TG} {tb : TS} {D : Ends} {σ : St} {H : Hp} (Pv : Nat → St → Hp → Prop) (h0 : Pv 0 σ H) (hl : ∀ i σ H, i ≤ xs.length → Pv i σ H → SqL K H a xs)
    (hs : ∀ i x σ H p, xs[i]? = some x → Pv i σ H → H p = none → g (.ref p) σ (upd H p (.tup [.int (i : Int), x])) fun σ2 H2 => tb { D with nx := Pv (i + 1), ct := Pv (i + 1), bk := D.nx } σ2 H2) (hd : ∀ σ H, Pv xs.length σ H → D.nx σ H) :
    ∃ W : Nat → Nat → St → Hp → Prop, (∃ m, W 0 m σ H) ∧ ∀ i m σ H, W i m σ H →
      ((Ite K a).stop i H ∧ D.nx σ H) ∨ ((Ite K a).go i H ∧ ∃ N : St → Hp → Prop, (∀ σ' H', N σ' H' → ∃ m', m' < m ∧ W (i + 1) m' σ' H') ∧ ∀ x H', (Ite K a).yld i H x H' → g x σ H' fun σ2 H2 => tb { D with nx := N, ct := N, bk := D.nx } σ2 H2) := by
  refine ⟨fun i m σ H => m = xs.length - i ∧ i ≤ xs.length ∧ Pv i σ H, ⟨xs.length, by simp, Nat.zero_le _, h0⟩, ?_⟩
  rintro i m σ H ⟨rfl, hi, p⟩
  have q := hl i σ H hi p
  by_cases hlt : i < xs.length
  · refine .inr ⟨⟨xs, xs[i], q, by simp [hlt]⟩, Pv (i + 1), fun σ' H' p' => ⟨xs.length - (i + 1), by omega, rfl, hlt, p'⟩, fun x H' y => ?_⟩
    obtain ⟨c, y, hn, e1, e2, hy⟩ := y
    subst e1 e2
    exact hs i y σ H c (hy xs q) p hn
  · have e : i = xs.length := by omega
    subst e
    exact .inl ⟨⟨xs, q, Nat.le_refl _⟩, hd σ H p⟩

/-! ### sum of a list of ints; isinstance with one built-in class -/
section
variable {X : Cx}
theorem call_sum (hc : X.calm = true) : CallR X (.builtin "sum") (fun xs H Q => ∃ (p : Addr) (ns : List Int), xs = [.ref p] ∧ SqL X.K H p (ns.map V.int) ∧ Q (.int ns.sum) H) := by
  intro pins s σ H xs us Q I r h
  obtain ⟨p, ns, rfl, hq, q⟩ := h
  obtain ⟨u, rfl, rx⟩ := vals1 r
  cases rx
  obtain ⟨its, r', pl, hz⟩ := I.list hq
  have hi := intsAre_of r'
  obtain ⟨zs, e⟩ := hi.allInts.items
  refine sum_intListG (xs := zs) (I.ok.hd hc) (by rw [← e]; exact pl.isList) fun h' tk t' hk => ⟨.int ns.sum, H, I.kept (t' := tk) hk, ⟨t', ?_⟩, q⟩
  have e2 : numsOf (intItems zs).toList = ns := by rw [← e]; exact hi.numsOf
  rw [nums_intItems] at e2
  rw [← e2, preSum_eq, List.take_of_length_le (by simp)]
theorem call_isi : CallR X (.builtin "isinstance") (fun xs H Q => ∃ x T t b, xs = [x, .ty T] ∧ TyOf X.K H x t ∧ PySem.W.kitOne X.K t (.type T) = some b ∧ Q (.bl b) H) := by
  intro pins s σ H xs us Q I r h
  obtain ⟨x, T, t, b, rfl, ty, e, q⟩ := h
  obtain ⟨u, v, rfl, rx, rv⟩ := vals2 r
  obtain rfl : v = Value.type T := rv
  exact isinst_ok I rx ty e fun tk => ⟨.bl b, H, I.tok tk, rfl, q⟩
end
end L2

set_option Elab.async false
set_option linter.all false
set_option maxRecDepth 100000
set_option maxHeartbeats 4000000
namespace L2
open PySem PySem.Spec PyProof.Rows

/-! ### list comprehensions: one clause, a plain name, at most one test; no exception leaves -/
/-- the block of a comprehension as a context -/
def cxComp (X : Cx) (N : List Str) (scope : Scope) (cl : List (Str × Addr)) (C : Addr) (s : Shared) (H : Hp) (fp : List Addr) : Cx :=
  { X with N := N, s₀ := s, H₀ := H, env := compEnvC scope cl C X.env, outer := X.stack, ex := fp, fn := fun _ => false, pn := [], xe := fun _ _ => False }
/-- what of the text a comprehension must have: its own name x, the names that it takes from around with their slots there -/
structure CompOk (X : Cx) (x : Str) (caps : List (Str × Nat)) (scope : Scope) (cl : List (Str × Addr)) : Prop where
  kind : scope.kind = .function
  nocell : ∀ y ∈ scope.names, y.2 ≠ .cell
  names : ∀ y ∈ scope.names, y.2 = .local → scope.names.lookup y.1 = some .local
  hx : scope.names.lookup x = some .local
  clos : closureFor scope X.env = pure cl
  cls : ∀ y c, cl.lookup y = some c → X.env.cells.lookup y = some c
  has : ∀ y, ((relabel scope X.env).names.lookup y = some .cell ∨ (relabel scope X.env).names.lookup y = some .free) → ∃ c, cl.lookup y = some c
  nd : (x :: caps.map (·.1)).Nodup
  cap : ∀ y j, (y, j) ∈ caps → X.N[j]? = some y ∧ (X.env.scope.names.lookup y = some .cell ∨ X.env.scope.names.lookup y = some .free) ∧
    ((relabel scope X.env).names.lookup y = some .cell ∨ (relabel scope X.env).names.lookup y = some .free)
/-- the values taken from around -/
def capV (caps : List (Str × Nat)) (σ : St) : St := caps.map fun p => (σ[p.2]?).getD none
section
variable {X : Cx} {pins : List (Addr × Obj)} {σ : St} {H : Hp} {s : Shared}
theorem capV_length (caps : List (Str × Nat)) (σ : St) : (capV caps σ).length = caps.length := by simp [capV]

/-- the state at the block's entry: the list to be filled stands at D, the block's names at C -/
theorem Inv.comp {x : Str} {caps : List (Str × Nat)} {scope : Scope} {cl : List (Str × Addr)} {fp : List Addr} {h' : Heap} {tk : Nat} {m : Str → Option Value} {D C : Addr} (I : Inv X pins σ H s) (K0 : CompOk X x caps scope cl) (hf : ∀ b ∈ fp, FpOk X pins H b)
    (hfs : ∀ b ∈ fp, b < s.heap.objs.size) (hD : s.heap.objs.size ≤ D) (hC : s.heap.objs.size ≤ C) (hDC : D ≠ C) (hk : ∀ b o, s.heap.get? b = some o → h'.get? b = some o) (hn : h'.Ns C m) (hL : h'.get? D = some { cls := .type "list", data := .seq #[] }) :
    Inv (cxComp X (x :: caps.map (·.1)) scope cl C s H fp) [] (none :: capV caps σ) (upd H D (.lst [])) { s with heap := h', toks := tk } := by
  have hnD := I.hok.fresh hD
  have hnC := I.hok.fresh hC
  have lkc : ∀ y c, (cxComp X (x :: caps.map (·.1)) scope cl C s H fp).env.cells.lookup y = some c → X.env.cells.lookup y = some c := fun y c e => K0.cls y c e
  have clt : ∀ y c, X.env.cells.lookup y = some c → c < s.heap.objs.size := fun y c e => by
    obtain ⟨v, q⟩ := I.cell y c e
    exact q.lt
  have up : ∀ b u, H b = some u → upd H D (.lst []) b = some u := fun b u q => by rw [upd_ne (ne_of_none q hnD)]; exact q
  have ok : (cxComp X (x :: caps.map (·.1)) scope cl C s H fp).Ok := by
    refine ⟨I.ok.mod, K0.kind, I.ok.glob, I.ok.blt, hC, fun y z c h1 h2 => I.ok.inj y z c (lkc y c h1) (lkc z c h2), fun y hy => K0.has y hy, fun y c h => absurd (show false = true from h) Bool.false_ne_true, I.ok.hd, I.ok.frames, .inl rfl, fun b hb => ?_, I.bs, Nat.le_trans I.ok.bsz I.sz, fun b o e hb => ?_, fun b hb hz => ?_, I.stack, I.stkFree⟩
    · obtain ⟨f0, f1, f2, f3, f4, f5⟩ := hf b hb
      exact ⟨Nat.ne_of_lt (Nat.lt_of_lt_of_le (hfs b hb) hC), fun y c e => f4 y c (lkc y c e)⟩
    · obtain ⟨f0, f1, f2, f3, f4, f5⟩ := hf b hb
      rcases f3 with z | z
      · exact I.ok.noex b o e z
      · exact absurd (Nat.lt_of_lt_of_le (Nat.lt_of_lt_of_le (Heap.lt_size e) I.ok.bsz) z) (Nat.lt_irrefl _)
    · obtain ⟨f0, f1, f2, f3, f4, f5⟩ := hf b hb
      rcases List.mem_cons.mp (I.stkSub b hz) with z | z
      · exact f1 z
      · exact f2 z
  refine ⟨ok, rfl, I.bare, ?_, ⟨m, hn, fun i y v e1 e2 e3 => ?_⟩, fun y c e => ?_, ?_, fun y c e => ?_, fun p hp => absurd (show p ∈ ([] : List (Addr × Obj)) from hp) (by simp), ?_, ?_⟩
  · exact Un.laid hk hD hnD
  · cases i with
    | zero => cases e2
    | succ i =>
      have e1' : (caps.map (·.1))[i]? = some y := e1
      have e2' : (capV caps σ)[i]? = some (some v) := e2
      rw [List.getElem?_map] at e1'
      unfold capV at e2'
      rw [List.getElem?_map] at e2'
      cases ec : caps[i]? with
      | none => rw [ec] at e1'; cases e1'
      | some p =>
        rw [ec] at e1' e2'
        obtain ⟨y', j⟩ := p
        have ey : y' = y := Option.some.inj e1'
        subst ey
        have ev : (σ[j]?).getD none = some v := Option.some.inj e2'
        have ev' : σ[j]? = some (some v) := by
          cases q : σ[j]? with
          | none => rw [q] at ev; cases ev
          | some w => rw [q] at ev; exact congrArg some ev
        obtain ⟨c1, c2, c3⟩ := K0.cap y' j (List.mem_of_getElem? ec)
        obtain ⟨m0, hn0, hl⟩ := I.loc
        obtain ⟨u, r, l⟩ := hl j y' v c1 ev' (by rcases c2 with z | z; exact .inr (.inl z); exact .inr (.inr z))
        refine ⟨u, r, .inr ⟨c3, ?_⟩⟩
        rcases l with ⟨k, _⟩ | ⟨k, c, ec, z⟩
        · have k' : X.env.scope.names.lookup y' = some .local := k
          rcases c2 with z | z
          · rw [z] at k'; cases k'
          · rw [z] at k'; cases k'
        · obtain ⟨c', hc'⟩ := K0.has y' c3
          have e4 := K0.cls y' c' hc'
          rw [ec] at e4
          cases e4
          obtain ⟨o, ho, hd⟩ := z
          exact ⟨c, hc', o, hk _ _ ho, hd⟩
  · obtain ⟨v, o, ho, hd⟩ := I.cell y c (lkc y c e)
    exact ⟨v, o, hk _ _ ho, hd⟩
  · show upd H D (.lst []) C = none
    rw [upd_ne (Ne.symm hDC)]
    exact hnC
  · have hlt := clt y c (lkc y c e)
    rw [upd_ne (Nat.ne_of_lt (Nat.lt_of_lt_of_le hlt hD))]
    exact I.freeC y c (lkc y c e)
  · exact I.hok.laid hk hD ⟨Nat.zero_le _, [], _, .nil, hL⟩
  · show (none :: capV caps σ).length = (x :: caps.map (·.1)).length
    simp [capV_length]
/-- behind the block -/
theorem Inv.comped {N : List Str} {scope : Scope} {cl : List (Str × Addr)} {fp : List Addr} {C : Addr} {s' : Shared} {σ' : St} {H' : Hp} (I : Inv X pins σ H s) (hf : ∀ b ∈ fp, FpOk X pins H b)
    (J : Inv (cxComp X N scope cl C s H fp) [] σ' H' s') : Inv X pins σ H' s' := by
  refine I.call' (ch := fp) (J.os.trans rfl) J.base J.hok J.bare fun b hb => ?_
  obtain ⟨f0, f1, f2, f3, f4, f5⟩ := hf b hb
  exact ⟨f3, f1, f4, f5⟩

/-- the reading of a comprehension: cap: what it takes from around; tt: its test; te: its item -/
def rdComp (J : It) (cap : St) (tt : TT) (te : TE) (Qf : Addr → Hp → Prop) (H : Hp) : Prop :=
  ∀ D, H D = none → ∃ W : Nat → Nat → List V → Hp → Prop, (∃ m, W 0 m [] (upd H D (.lst []))) ∧ ∀ i m ys H1, W i m ys H1 →
    (J.stop i H1 ∧ Qf D H1) ∨ (J.go i H1 ∧ ∀ v H2, J.yld i H1 v H2 → tt (some v :: cap) H2 fun b H3 => if b = true then
      te (some v :: cap) H3 fun y H4 => H4 D = some (.lst ys) ∧ ys.length < sizeLine ∧ ∃ m', m' < m ∧ W (i + 1) m' (ys ++ [y]) (upd H4 D (.lst (ys ++ [y]))) else ∃ m', m' < m ∧ W (i + 1) m' ys H3)
/-- its tests: none, or one -/
def PTs (X : Cx) (ifs : List Expr) (tt : TT) : Prop :=
  ∀ (pins : List (Addr × Obj)) (s : Shared) (σ : St) (H : Hp) (Q : Bool → Hp → Prop), Inv X pins σ H s → tt σ H Q →
    wpAny (model X.prog X.w) X.A (forIn ifs true fun c r => if r = true then do let ok ← isTrue c X.env (eval c X.env); pure (ForInStep.yield ok) else pure (ForInStep.yield r)) (TP X pins σ Q) X.xe s
def tNoIf : TT := fun _ H Q => Q true H
theorem pts_nil : PTs X [] tNoIf := fun _ _ _ H _ I h => wpAny_tests_nil ⟨H, I, h⟩
theorem pts_one {c : Expr} {tt : TT} (h : PT X c tt) : PTs X [c] tt := fun pins s σ H Q I q => wpAny_tests_one (h pins s σ H Q I q)

theorem comp_core {x : Str} {px pos : Pos} {caps : List (Str × Nat)} {scope : Scope} {cl : List (Str × Addr)} {elt iter : Expr} {ifs : List Expr} {J : It} {fp : List Addr} {it : Addr} {tn : Nat → Heap → Prop} {tt : TT} {te : TE} {Qf : Addr → Hp → Prop}
    {RR : Value → Addr → Result → Shared → Prop} {E : Value → Shared → Prop} (I : Inv X pins σ H s) (hc : X.calm = true) (K0 : CompOk X x caps scope cl) (T : Turn X.prog X.w X.K (.Name x px) J fp it tn) (st : tn 0 s.heap) (hf : ∀ b ∈ fp, FpOk X pins H b)
    (ht : ∀ C s1 H1 fp1, PTs (cxComp X (x :: caps.map (·.1)) scope cl C s1 H1 fp1) ifs tt) (he : ∀ C s1 H1 fp1, PE (cxComp X (x :: caps.map (·.1)) scope cl C s1 H1 fp1) elt te) (rd : rdComp J (capV caps σ) tt te Qf H)
    (hRR : ∀ D C s' H' m, Inv X pins σ H' s' → s'.heap.Ns C m → FpOk X pins H' C → Qf D H' → RR (.ref D) C (.ok .next) s') :
    wpAny (model X.prog X.w) X.A (newList []) (fun acc s3 => wpAny (model X.prog X.w) X.A (newFunctionEnv scope X.env.globals cl [] X.env.qual none .none (some X.env)) (fun cenv s4 =>
      codeAny (model X.prog X.w) X.A (.compStart (.ListComp elt [⟨.Name x px, iter, ifs, 0⟩] scope pos) 0 (.ref it) acc { cenv with scope := relabel scope X.env }) (RR acc cenv.locals) s4) E s3) E s := by
  have hfs : ∀ b ∈ fp, b < s.heap.objs.size := fun b hb => by
    obtain ⟨o, e, _⟩ := T.obj _ _ st b hb
    exact Heap.lt_size e
  refine wpAny_newObj_type (wpAny_newFunctionEnv K0.nocell (by intro y hy; simp at hy) (fun h1 hn1 hb1 => ?_) K0.kind)
  dsimp only at hn1 hb1 ⊢
  obtain ⟨D, eD⟩ : ∃ D : Nat, D = s.heap.objs.size := ⟨_, rfl⟩
  obtain ⟨H2, eH2⟩ : ∃ g, g = s.heap.push { cls := .type "list", dict := none, data := .seq ([] : List Value).toArray } := ⟨_, rfl⟩
  rw [← eH2] at hn1 hb1 ⊢
  rw [← eD]
  have hC : H2.objs.size = D + 1 := by rw [eH2, Heap.size_push, eD]
  have hle : s.heap.objs.size ≤ H2.objs.size := by rw [hC, eD]; exact Nat.le_succ _
  have hDC : D ≠ H2.objs.size := by rw [hC]; exact Nat.ne_of_lt (Nat.lt_succ_self _)
  have hk : ∀ b o, s.heap.get? b = some o → h1.get? b = some o := fun b o e => by
    refine hb1.extBut b o (Nat.ne_of_lt (Nat.lt_of_lt_of_le (Heap.lt_size e) hle)) (Heap.get?_push_of_some _ ?_)
    rw [eH2]
    exact Heap.get?_push_of_some _ e
  have hL : h1.get? D = some { cls := .type "list", data := .seq #[] } := by
    refine hb1.extBut D _ (by omega) (Heap.get?_push_of_some _ ?_)
    rw [eH2, eD]
    exact Heap.get?_push_size _ rfl
  have st1 : tn 0 h1 := T.keep _ _ _ st fun b _ o e => hk b o e
  obtain ⟨W, ⟨m0, w0⟩, turn⟩ := rd D (I.hok.fresh (by omega))
  have loop : codeAny (model X.prog X.w) X.A (.compLoop (.ListComp elt [⟨.Name x px, iter, ifs, 0⟩] scope pos) 0 (.ref it) (.ref D) (compEnvC scope cl H2.objs.size X.env)) (RR (.ref D) H2.objs.size) { s with heap := h1, toks := s.toks + ([] : List (Str × Value)).length } := by
    refine codeAny_compLoop_tests (fun n s' => ∃ i ys sl H', Inv (cxComp X (x :: caps.map (·.1)) scope cl H2.objs.size s H fp) [] (sl :: capV caps σ) H' s' ∧ tn i s'.heap ∧ (∀ b ∈ fp, H' b = none) ∧ W i n ys H') ?_ m0
      ⟨0, [], none, _, I.comp K0 hf hfs (by omega) (by omega) hDC hk hn1 hL, st1, fun b hb => ?_, w0⟩
    · rintro n s3 ⟨i, ys, sl, H3, I3, st3, fr3, w3⟩
      have fpc : ∀ {H' : Hp} {pi : List (Addr × Obj)}, (∀ b ∈ fp, H' b = none) → (∀ p ∈ pi, p.1 ∉ fp) → ∀ b ∈ fp, FpOk (cxComp X (x :: caps.map (·.1)) scope cl H2.objs.size s H fp) pi H' b := fun {H' pi} hn hp b hb => by
        obtain ⟨f0, f1, f2, f3, f4, f5⟩ := hf b hb
        refine ⟨hn b hb, ?_, fun z => ?_, .inl hb, fun y c e => f4 y c (K0.cls y c e), fun p hpp z => ?_⟩
        · exact Nat.ne_of_lt (Nat.lt_of_lt_of_le (hfs b hb) hle)
        · rcases List.mem_cons.mp (I.stkSub b z) with q | q
          · exact f1 q
          · exact f2 q
        · exact hp p (by simpa [cxComp] using hpp) (by rw [z]; exact hb)
      have clear : ∀ {α : Type} {t : Sem α} {Q : α → Shared → Prop} {E' : Value → Shared → Prop} {s : Shared}, wpAny (model X.prog X.w) X.A t Q (fun _ _ => False) s → wpAny (model X.prog X.w) X.A t Q E' s := fun h => wpAny_mono h (fun _ _ z => z) fun _ _ z => z.elim
      rcases turn i n ys H3 w3 with ⟨stop, qf⟩ | ⟨go, step⟩
      · refine thn (T.done (cxComp X (x :: caps.map (·.1)) scope cl H2.objs.size s H fp) rfl rfl rfl hc i [] s3 _ H3 _ I3 (fpc fr3 (by simp)) st3 stop) fun r s4 ⟨hr, I4⟩ => ?_
        subst hr
        obtain ⟨m4, hn4, _⟩ := id I4.loc
        refine hRR D _ s4 H3 m4 (I.comped hf I4) hn4 ?_ qf
        have gC : s.heap.objs.size ≤ H2.objs.size := by omega
        exact I.fpOk gC I4.free
      · refine clear (thn (T.item (cxComp X (x :: caps.map (·.1)) scope cl H2.objs.size s H fp) rfl rfl rfl hc i [] s3 _ H3 (fun _ _ => False) I3 (fpc fr3 (by simp)) st3 go) fun r s4 ⟨u, hr, h4⟩ => ?_)
        subst hr
        refine clear (show wpAny (model X.prog X.w) X.A (pure () >>= fun _ => assign (.Name x px) (compEnvC scope cl H2.objs.size X.env) u) _ _ s4 from wpAny_bind (thn (h4 : wpAny (model X.prog X.w) X.A (pure ()) _ _ s4) fun _ s5 ⟨v, H5, I5, r5, y5, st5, fr5⟩ => ?_))
        have I5' := I5.pinned (fpc fr5 (by simp)) (T.obj _ _ st5)
        have hg : PG (cxComp X (x :: caps.map (·.1)) scope cl H2.objs.size s H fp) (.Name x px) (gName 0) := pg_name (i := 0) K0.nd rfl (Or.inl (lookup_relabel_local K0.hx)) (Or.inr (lookup_relabel_local K0.hx))
        refine thn (hg _ s5 (sl :: capV caps σ) H5 v u (fun σ2 H2 => σ2 = some v :: capV caps σ ∧ H2 = H5) I5' r5 (show _ ∧ _ from ⟨rfl, rfl⟩)) fun _ s6 ⟨σ6, H6, I6, e6, e7⟩ => ?_
        subst e6 e7
        have q6 := step v _ y5
        have again : ∀ {H7 : Hp} {s7 : Shared} {sl : Option V} {zs : List V} {m' : Nat}, Inv (cxComp X (x :: caps.map (·.1)) scope cl H2.objs.size s H fp) ([] ++ pinsAt fp s5.heap) (sl :: capV caps σ) H7 s7 → m' < n → W (i + 1) m' zs H7 →
            ∃ m, m < n ∧ ∃ i ys sl H', Inv (cxComp X (x :: caps.map (·.1)) scope cl H2.objs.size s H fp) [] (sl :: capV caps σ) H' s7 ∧ tn i s7.heap ∧ (∀ b ∈ fp, H' b = none) ∧ W i m ys H' := fun {H7 s7 sl zs m'} I7 hm w7 => by
          refine ⟨m', hm, i + 1, zs, sl, H7, I7.unpinned, T.keep _ _ _ st5 fun b hb o e => (I7.pin (b, o) (List.mem_append_right _ (List.mem_append_right _ (mem_pinsAt hb e)))).1, fun b hb => ?_, w7⟩
          obtain ⟨o, e, d⟩ := T.obj _ _ st5 b hb
          exact (I7.pin (b, o) (List.mem_append_right _ (List.mem_append_right _ (mem_pinsAt hb e)))).2.1
        refine clear (thn (ht H2.objs.size s H fp _ s6 _ H6 _ I6 q6) fun ok s7 ⟨H7, I7, q7⟩ => ?_)
        cases ok with
        | false =>
          obtain ⟨m', hm, w7⟩ := (show ∃ m', m' < n ∧ W (i + 1) m' ys H7 from q7)
          exact again I7 hm w7
        | true =>
          refine clear (thn (he H2.objs.size s H fp _ s7 _ H7 _ I7 q7) fun xv s8 ⟨y, H8, I8, r8, hD8, hz8, m', hm, w8⟩ => ?_)
          refine clear (thn (mt_append _ s8 _ H8 (.ref D) [y] (.ref D) [xv] (fun _ H9 => H9 = upd H8 D (.lst (ys ++ [y]))) I8 rfl (.cons r8 .nil) ⟨D, ys, y, rfl, rfl, hD8, hz8, rfl⟩) fun _ s9 ⟨_, H9, I9, _, e9⟩ => ?_)
          subst e9
          exact again I9 hm w8
    · rw [upd_ne (by rw [eD]; exact Nat.ne_of_lt (hfs b hb))]
      exact (hf b hb).1
  exact codeAny_compStart_list loop (T.self _ 0 _ _ _ st1 loop)

def tComp (wi : TI) (caps : List (Str × Nat)) (tt : TT) (te : TE) : TE := fun σ H Q => wi σ H fun J H1 => rdComp J (capV caps σ) tt te (fun D H' => Q (.ref D) H') H1
/-- a comprehension as a value -/
theorem pe_comp {x : Str} {px pos : Pos} {caps : List (Str × Nat)} {scope : Scope} {cl : List (Str × Addr)} {elt iter : Expr} {ifs : List Expr} {wi : TI} {tt : TT} {te : TE} (hc : X.calm = true) (K0 : CompOk X x caps scope cl) (hi : PI X (.Name x px) iter wi)
    (ht : ∀ C s1 H1 fp1, PTs (cxComp X (x :: caps.map (·.1)) scope cl C s1 H1 fp1) ifs tt) (he : ∀ C s1 H1 fp1, PE (cxComp X (x :: caps.map (·.1)) scope cl C s1 H1 fp1) elt te) (hs : ∀ x, foldedSetIterable iter X.env x = pure x := by intro _; rfl) :
    PE X (.ListComp elt [⟨.Name x px, iter, ifs, 0⟩] scope pos) (tComp wi caps tt te) := by
  intro pins s σ H Q I h
  rw [eval_ListComp]
  refine wpAny_comprehension_free (use := none) rfl hs K0.clos K0.kind K0.names (thn (hi pins s σ H _ I h) fun v s1 h1 => thn h1 fun itv s2 h2 => ?_)
  obtain ⟨it, fp, tn, J, H2, e, I2, T, st2, f2, rd⟩ := h2
  subst e
  refine comp_core (RR := fun acc C => compPost (model X.prog X.w) X.A X.xe none (EP X pins σ Q) acc C) I2 hc K0 T st2 f2 ht he rd ?_
  intro D C s' H' m I' hn fC q
  exact ⟨m, hn, fun h'' hs'' => ⟨.ref D, H', I'.turned (h' := h'') (t' := s'.toks) (fun b o hb e => hs''.extBut b o hb e) fC.1 fC.2.1 fC.2.2.2.1 fC.2.2.2.2.1 fC.2.2.2.2.2, rfl, q⟩⟩
/-- name = a comprehension, on one line: the name is stored ahead of the letting go -/
theorem ps_setComp {i : Nat} {y x : Str} {px py pos spos : Pos} {caps : List (Str × Nat)} {scope : Scope} {cl : List (Str × Addr)} {elt iter : Expr} {ifs : List Expr} {wi : TI} {tt : TT} {te : TE} (hN : X.N.Nodup) (hiN : X.N[i]? = some y) (hy : X.env.scope.names.lookup y = some .local) (hc : X.calm = true)
    (K0 : CompOk X x caps scope cl) (hi : PI X (.Name x px) iter wi)
    (ht : ∀ C s1 H1 fp1, PTs (cxComp X (x :: caps.map (·.1)) scope cl C s1 H1 fp1) ifs tt) (he : ∀ C s1 H1 fp1, PE (cxComp X (x :: caps.map (·.1)) scope cl C s1 H1 fp1) elt te)
    (hsw : swapsWith (.ListComp elt [⟨.Name x px, iter, ifs, 0⟩] scope pos) (some (.Name y py)) spos.line X.env = pure true := by rfl) (hs : ∀ x, foldedSetIterable iter X.env x = pure x := by intro _; rfl) :
    PS X (.Assign [.Name y py] (.ListComp elt [⟨.Name x px, iter, ifs, 0⟩] scope pos) spos) (tAsg (tComp wi caps tt te) (gName i)) := by
  intro pins s σ H D0 I h
  rw [exec_Assign_Name_used _ _ _ _ hsw]
  refine wpAny_bind (wpAny_standAt (wpAny_bind ?_))
  show wpAny _ X.A (do let _ ← comprehension (.ListComp elt [⟨.Name x px, iter, ifs, 0⟩] scope pos) scope X.env _ (newList []) false (eval iter X.env) (some (assign (.Name y py) X.env))) _ _ s
  refine wpAny_bind (wpAny_mono (wpAny_comprehension_free (use := some (assign (.Name y py) X.env)) (Q := fun _ s' => SP X pins D0 .next s') rfl hs K0.clos K0.kind K0.names
    (thn (hi pins s σ H _ I h) fun v s1 h1 => thn h1 fun itv s2 h2 => ?_)) (fun _ s' hq => wpAny_pure (wpAny_pure hq)) fun _ _ e => e)
  obtain ⟨it, fp, tn, J, H2, e, I2, T, st2, f2, rd⟩ := h2
  subst e
  refine comp_core (RR := fun acc C => compPost (model X.prog X.w) X.A X.xe (some (assign (.Name y py) X.env)) (fun _ s' => SP X pins D0 .next s') acc C) I2 hc K0 T st2 f2 ht he rd ?_
  intro D C s' H' m I' hn fC q
  show wpAny _ X.A (assign (.Name y py) X.env (.ref D)) _ _ _
  refine wpAny_assign_Name (store_ok2 (v := .ref D) I' hN hiN (.inl hy) rfl (fun s'' I'' ch => ⟨m, ?_, fun h'' hs'' => ?_⟩) (.inr hy))
  · obtain ⟨a, sb, ha⟩ := ch
    refine hn.sameBut sb fun z => ?_
    rcases ha with ha | ha
    · exact fC.2.1 (z.trans ha)
    · exact fC.2.2.2.2.1 _ a ha z.symm
  · exact ⟨_, H', I''.turned (h' := h'') (t' := s''.toks) (fun b o hb e => hs''.extBut b o hb e) fC.1 fC.2.1 fC.2.2.2.1 fC.2.2.2.2.1 fC.2.2.2.2.2, q⟩
end
/-! the facts of the text about a comprehension's names -/
theorem relabel_back {scope : Scope} {env : Env} {y : Str} {k : NameKind} (h : (relabel scope env).names.lookup y = some k) : ∃ k0, (y, k0) ∈ scope.names ∧ (k = k0 ∨ (k0 = .free ∧ k = .cell)) := by
  have h := PySem.mem_of_lookup h
  obtain ⟨⟨n, k0⟩, hm, e⟩ := List.mem_map.mp (show (y, k) ∈ scope.names.map _ from h)
  by_cases c : (k0 == NameKind.free && env.scope.kind == .function && env.kindOf n == some .cell) = true
  · have e' : (n, NameKind.cell) = (y, k) := by rw [← e]; exact (if_pos c).symm
    have c1 : k0 = .free := by
      simp only [Bool.and_eq_true] at c
      exact eq_of_beq c.1.1
    cases e'
    exact ⟨_, hm, .inr ⟨c1, rfl⟩⟩
  · have e' : (n, k0) = (y, k) := by rw [← e]; exact (if_neg c).symm
    cases e'
    exact ⟨_, hm, .inl rfl⟩
section
variable {X : Cx} {x : Str} {scope : Scope}
/-- it takes nothing from around -/
theorem CompOk.zero (hfree : ∀ y ∈ scope.names, y.2 ≠ .free := by decide) (nocell : ∀ y ∈ scope.names, y.2 ≠ .cell := by decide) (kind : scope.kind = .function := by rfl) (names : ∀ y ∈ scope.names, y.2 = .local → scope.names.lookup y.1 = some .local := by decide)
    (hx : scope.names.lookup x = some .local := by rfl) : CompOk X x [] scope [] := by
  refine ⟨kind, nocell, names, hx, closureFor_none hfree, fun y c e => (by cases e), fun y hy => ?_, by simp, fun y j h => nomatch h⟩
  rcases hy with hy | hy
  all_goals
    obtain ⟨k0, hm, e⟩ := relabel_back hy
    rcases e with e | ⟨e, _⟩
    · subst e
      first | exact absurd rfl (nocell _ hm) | exact absurd rfl (hfree _ hm)
    · subst e
      exact absurd rfl (hfree _ hm)
/-- it takes the one name y, which stands in slot j there -/
theorem CompOk.one {y : Str} {j : Nat} {c : Addr} (hN : X.N[j]? = some y) (hX : X.env.scope.names.lookup y = some .cell ∨ X.env.scope.names.lookup y = some .free) (ec : X.env.cells.lookup y = some c) (clos : closureFor scope X.env = pure [(y, c)])
    (hr : (relabel scope X.env).names.lookup y = some .cell ∨ (relabel scope X.env).names.lookup y = some .free)
    (hfree : ∀ z ∈ scope.names, z.2 = .free → z.1 = y := by decide) (nocell : ∀ y ∈ scope.names, y.2 ≠ .cell := by decide) (kind : scope.kind = .function := by rfl) (names : ∀ y ∈ scope.names, y.2 = .local → scope.names.lookup y.1 = some .local := by decide)
    (hx : scope.names.lookup x = some .local := by rfl) (nd : [x, y].Nodup := by decide) : CompOk X x [(y, j)] scope [(y, c)] := by
  have look : ([(y, c)] : List (Str × Addr)).lookup y = some c := by simp
  refine ⟨kind, nocell, names, hx, clos, fun z d e => ?_, fun z hz => ?_, nd, fun z i h => ?_⟩
  · have := PySem.mem_of_lookup e
    cases List.mem_singleton.mp this
    exact ec
  · have hz' : z = y := by
      rcases hz with hz | hz
      all_goals
        obtain ⟨k0, hm, e⟩ := relabel_back hz
        rcases e with e | ⟨e, _⟩
        · subst e
          first | exact absurd rfl (nocell _ hm) | exact hfree _ hm rfl
        · subst e
          exact hfree _ hm rfl
    subst hz'
    exact ⟨c, look⟩
  · cases List.mem_singleton.mp h
    exact ⟨hN, hX, hr⟩
end
end L2

set_option Elab.async false
set_option linter.all false
set_option maxRecDepth 100000
set_option maxHeartbeats 4000000
namespace L2
open PySem PySem.Spec PyProof.Rows

/-! ### min of a list of ints, without and with a default -/
section
variable {prog : Program} {w : World} {A : Around} {R : Result → Shared → Prop} {I S : Addr} {fp wr : List Addr} {n : Nat} {P : Nat → Value → Prop} {St : Nat → Heap → Prop} {kw : List (Str × Value)}
theorem minK_loop (W : Walks prog w A.in1 I fp wr n P St) (bt : Nat → Nat → Bool) (cmp : CmpOf prog w A.in1 .Lt P bt) (hSf : S ∉ fp) :
    ∀ (k j : Nat) (s : Shared) (x : Value) (c : Nat), j + 1 + k = n → St (j + 1) s.heap → P (argBest bt j) x → s.heap.get? S = some { cls := .type "list", data := .seq #[x, x] c } →
      (∀ v g t, P (argBest bt (n - 1)) v → (∀ b o, b ∉ wr → b ≠ S → s.heap.get? b = some o → g.get? b = some o) → R (.ok (.ret v)) { s with heap := g, toks := t }) →
      codeAny (model prog w) A (.builtin "min.loop" ⟨[.ref I, .none, .ref S], kw⟩) R s := by
  have hSw : S ∉ wr := fun z => hSf (W.sub _ z)
  have nm : (toString "min" ++ toString ".loop" : String) = "min.loop" := by decide
  intro k
  induction k with
  | zero =>
    intro j s x c hj st px hS fin
    have hn : j + 1 = n := hj
    refine codeAny_builtin PySem.F.entry_min_loop ?_
    rw [Around.under_plainId PySem.F.plain_min_loop _]
    show wpAny _ A.in1 (seqItems? (.ref S) >>= _) _ _ s
    refine wpAny_bind (wpAny_seqItems hS rfl ?_)
    show wpAny _ A.in1 (tryCatch (pyNext (.ref I)) _ >>= _) _ _ s
    refine wpAny_bind (wpAny_tryCatch (W.done s _ _ (hn ▸ st) fun g t kk => ?_))
    have hS1 := kk S _ hSw hS
    show wpAny _ A.in1 (updateSeq S (fun _ => #[]) >>= _) _ _ _
    refine wpAny_bind (wpAny_updateSeq hS1 rfl (wpAny_bind (wpAny_letGo (wpAny_pure ?_))))
    exact fin x _ t (by rw [← hn]; exact px) fun b o b1 b2 q => (Heap.get?_update_other _ _ (Ne.symm b2)).trans (kk b o b1 q)
  | succ k ih =>
    intro j s x c hj st px hS fin
    have lt : j + 1 < n := by omega
    refine codeAny_builtin PySem.F.entry_min_loop ?_
    rw [Around.under_plainId PySem.F.plain_min_loop _]
    show wpAny _ A.in1 (seqItems? (.ref S) >>= _) _ _ s
    refine wpAny_bind (wpAny_seqItems hS rfl ?_)
    show wpAny _ A.in1 (tryCatch (pyNext (.ref I)) _ >>= _) _ _ s
    refine wpAny_bind (wpAny_tryCatch (W.item (j + 1) s _ _ lt st fun v g t pv st1 kk => ?_))
    have hS1 := kk S _ hSw hS
    show wpAny _ A.in1 (tryCatch (holding [v, v] (richCompare .Lt v x >>= _)) _ >>= _) _ _ _
    refine wpAny_bind (wpAny_tryCatch (wpAny_holding (wpAny_bind (cmp (j + 1) (argBest bt j) v x _ _ _ pv px ?_))))
    refine wpAny_bind (wpAny_holding (wpAny_truthy_bool (wpAny_bind (wpAny_letGo (wpAny_pure ?_)))))
    cases hb : bt (j + 1) (argBest bt j) with
    | true =>
      simp only [if_true]
      refine wpAny_bind (wpAny_updateSeq hS1 rfl (wpAny_bind (wpAny_letGo ?_)))
      rw [nm]
      refine wpAny_pure ⟨plainId_quiet PySem.F.plain_min_loop _, ih (j + 1) _ v _ (by omega) (W.frame _ _ _ st1 fun b bf o q => ?_) (by simp only [argBest, hb, if_true]; exact pv) (Heap.get?_update_self _ hS1 rfl) fun y g2 t2 py k2 => ?_⟩
      · exact (Heap.get?_update_other _ _ (fun z : S = b => hSf (by rw [z]; exact bf))).trans q
      · exact fin y g2 t2 py fun b o b1 b2 q => k2 b o b1 b2 ((Heap.get?_update_other _ _ (Ne.symm b2)).trans (kk b o b1 q))
    | false =>
      simp only [Bool.false_eq_true, if_false]
      refine wpAny_bind (wpAny_letGo ?_)
      rw [nm]
      refine wpAny_pure ⟨plainId_quiet PySem.F.plain_min_loop _, ih (j + 1) _ x c (by omega) st1 (by simp only [argBest, hb, Bool.false_eq_true, if_false]; exact px) hS1 fun y g2 t2 py k2 => ?_⟩
      exact fin y g2 t2 py fun b o b1 b2 q => k2 b o b1 b2 (kk b o b1 q)
theorem minK_first (W : Walks prog w A.in1 I fp wr n P St) (bt : Nat → Nat → Bool) (cmp : CmpOf prog w A.in1 .Lt P bt) (hSf : S ∉ fp) (hn : 0 < n) {s : Shared} {c : Nat} (st : St 0 s.heap)
    (hS : s.heap.get? S = some { cls := .type "list", data := .seq #[] c })
    (fin : ∀ v g t, P (argBest bt (n - 1)) v → (∀ b o, b ∉ wr → b ≠ S → s.heap.get? b = some o → g.get? b = some o) → R (.ok (.ret v)) { s with heap := g, toks := t }) :
    codeAny (model prog w) A (.builtin "min.loop" ⟨[.ref I, .none, .ref S], kw⟩) R s := by
  have hSw : S ∉ wr := fun z => hSf (W.sub _ z)
  have nm : (toString "min" ++ toString ".loop" : String) = "min.loop" := by decide
  refine codeAny_builtin PySem.F.entry_min_loop ?_
  rw [Around.under_plainId PySem.F.plain_min_loop _]
  show wpAny _ A.in1 (seqItems? (.ref S) >>= _) _ _ s
  refine wpAny_bind (wpAny_seqItems hS rfl ?_)
  show wpAny _ A.in1 (tryCatch (pyNext (.ref I)) _ >>= _) _ _ s
  refine wpAny_bind (wpAny_tryCatch (W.item 0 s _ _ hn st fun v g t pv st1 kk => ?_))
  have hS1 := kk S _ hSw hS
  show wpAny _ A.in1 (updateSeq S (fun _ => #[v, v]) >>= _) _ _ _
  refine wpAny_bind (wpAny_updateSeq hS1 rfl ?_)
  rw [nm]
  refine wpAny_pure ⟨plainId_quiet PySem.F.plain_min_loop _, minK_loop W bt cmp hSf (n - 1) 0 _ v _ (by omega) (W.frame _ _ _ st1 fun b bf o q => ?_) pv (Heap.get?_update_self _ hS1 rfl) fun y g2 t2 py k2 => ?_⟩
  · exact (Heap.get?_update_other _ _ (fun z : S = b => hSf (by rw [z]; exact bf))).trans q
  · exact fin y g2 t2 py fun b o b1 b2 q => k2 b o b1 b2 ((Heap.get?_update_other _ _ (Ne.symm b2)).trans (kk b o b1 q))
end
theorem minD_args (a v : Value) : argsOk "min" ⟨[a], [(Str.ofString "default", v)]⟩ := by unfold argsOk; kernel_rfl
section
variable {prog : Program} {w : World} {A : Around} {E : Value → Shared → Prop} {s : Shared} {l : Addr} {zs : Array (Int × Tok)}
theorem call_min_default {d : Value} {Q : Value → Shared → Prop} (hh : A.handled = none) (hl : s.heap.IsList l (intItems zs)) (hne : 0 < zs.size)
    (h : ∀ v g t, (intItems zs)[argBest (fun i j => decide (numAt zs i < numAt zs j)) (zs.size - 1)]? = some v → (∀ b o, s.heap.get? b = some o → g.get? b = some o) → Q v { s with heap := g, toks := t }) :
    wpAny (model prog w) A (call (.builtin "min") [.ref l] [(Str.ofString "default", d)]) Q E s := by
  have nm : (toString "min" ++ toString ".loop" : String) = "min.loop" := by decide
  refine PyProof.Rows.kmk_tree PySem.F.kind_min PySem.F.plain_min PySem.F.entry_min (minD_args _ _) ?_
  refine wpAny_bind (wpAny_of_eq (show Builtin.Builtins.bindParams "min" ["key", "default"] 0 ⟨[], [(Str.ofString "default", d)]⟩ = pure [none, some d] from rfl) ?_)
  refine wpAny_bind (wpAny_pure (wpAny_bind (iter_intList hl fun s2 e st hfp hlI => ?_)))
  subst e
  refine wpAny_bind (wpAny_newObj_type ?_)
  rw [nm]
  have hz : (intItems zs).size = zs.size := by simp [intItems]
  refine wpAny_pure ⟨plainId_quiet PySem.F.plain_min_loop _, minK_first (Walks.list (A := A.in1) hh _ l hlI (intItems zs)) _ (CmpOf.ints_lt (numAt zs) (fun _ _ => intItems_at)) (fun z => Nat.lt_irrefl _ (hfp _ z)) (by rw [hz]; exact hne)
    ⟨⟨_, Heap.get?_push_of_some _ (Heap.get?_push_size _ rfl), rfl, rfl⟩, (hl.push _).push _⟩ (Heap.get?_push_size _ rfl) fun v g t hv k => ?_⟩
  refine h v g t (by rw [hz] at hv; exact hv) fun b o q => k b o ?_ ?_ (Heap.get?_push_of_some _ (Heap.get?_push_of_some _ q))
  · exact fun z => absurd (Heap.lt_size q) (by rw [List.mem_singleton.mp z]; exact Nat.lt_irrefl _)
  · refine Nat.ne_of_lt (Nat.lt_of_lt_of_le (Heap.lt_size q) ?_)
    rw [Heap.size_push]
    exact Nat.le_succ _
end
/-- the least of a list of ints -/
def IsMin (M : Int) (ns : List Int) : Prop := M ∈ ns ∧ ∀ a ∈ ns, M ≤ a
theorem best_min {ns : List Int} {its : List Value} {zs : Array (Int × Tok)} (hi : IntsAre its ns) (e : its.toArray = intItems zs) (hne : 0 < ns.length) : 0 < zs.size ∧ IsMin (numAt zs (argBest (fun i j => decide (numAt zs i < numAt zs j)) (zs.size - 1))) ns := by
  have hns : ns = zs.toList.map (·.1) := by rw [← hi.numsOf, ← nums_intItems, ← e]
  have hsz : 0 < zs.size := by
    have h3 := hne
    rw [hns, List.length_map, Array.length_toList] at h3
    exact h3
  obtain ⟨h1, h2⟩ := argBest_lt (numAt zs) (zs.size - 1)
  refine ⟨hsz, ?_, fun a ha => ?_⟩
  · rw [hns, numAt_eq]
    exact getD_mem (by rw [List.length_map, Array.length_toList]; omega)
  · rw [hns] at ha
    obtain ⟨j, hj, rfl⟩ := mem_getD ha
    rw [List.length_map, Array.length_toList] at hj
    rw [← numAt_eq]
    exact h2 j (by omega)
section
variable {X : Cx}
theorem call_minL (hc : X.calm = true) : CallR X (.builtin "min") (fun xs H Q => ∃ (p : Addr) (ns : List Int), xs = [.ref p] ∧ SqL X.K H p (ns.map V.int) ∧ 0 < ns.length ∧ ∀ M, IsMin M ns → Q (.int M) H) := by
  intro pins s σ H xs us Q I r h
  obtain ⟨p, ns, rfl, hq, hne, q⟩ := h
  obtain ⟨u, rfl, rx⟩ := vals1 r
  cases rx
  obtain ⟨its, r', pl, hz⟩ := I.list hq
  have hi := intsAre_of r'
  obtain ⟨zs, e⟩ := hi.allInts.items
  obtain ⟨hsz, hm⟩ := best_min hi e hne
  refine min_intList (xs := zs) (I.ok.hd hc) (by rw [← e]; exact pl.isList) hsz fun v g t hv k => ?_
  obtain ⟨t', rfl⟩ := intItems_at hv
  exact ⟨.int _, H, I.kept (t' := t) k, ⟨t', rfl⟩, q _ hm⟩
/-- min(xs, default = d), the list not empty -/
def tMinD (K : PySem.W.Frag) (ta : TA) (td : TE) : TE := fun σ H Q => ta σ H fun vs H1 => td σ H1 fun _ H2 => ∃ (p : Addr) (ns : List Int), vs = [.ref p] ∧ SqL K H2 p (ns.map V.int) ∧ 0 < ns.length ∧ ∀ M, IsMin M ns → Q (.int M) H2
theorem pe_minD {a d : Expr} {ta : TA} {td : TE} {p pos kpos : Pos} (hc : X.calm = true) (hg : Gl X "min") (hm : X.mg "min" = none) (ha : PA X [a] ta) (hd : PE X d td)
    (hv : bootBuiltins "min" = some (.builtin "min"))
    (he : backTo pos (starEach [a] X.env) = (false, eval a X.env) :: backTo pos (starEach [] X.env) := by rfl) (hpl : (backTo pos (starEach [a] X.env)).any (·.1) = false := by rfl)
    (hks : (backToKw pos (keywordEach [⟨some (Str.ofString "default"), d, kpos⟩] X.env)).filterMap (·.1) = [Str.ofString "default"] := by rfl)
    (hall : (backToKw pos (keywordEach [⟨some (Str.ofString "default"), d, kpos⟩] X.env)).all (·.1.isSome) = true := by rfl)
    (hkw : (backToKw pos (keywordEach [⟨some (Str.ofString "default"), d, kpos⟩] X.env)).any (·.1.isNone) = false := by rfl) :
    PE X (.Call (.Name "min" p) [a] [⟨some (Str.ofString "default"), d, kpos⟩] pos) (tMinD X.K ta td) := by
  intro pins s σ H Q I h
  refine wpAny_Call_Name_kw (ld_blt I hg hm hv ?_)
  refine PyProof.Rows.callWith_kw (thn (ha pos pins s σ H _ I h) fun us s1 ⟨vs, H1, I1, r1, q1⟩ => ?_) he hpl hall hkw
  show wpAny _ _ (evalAll ((do let v ← eval d X.env; standAt pos; pure v) :: [])) _ _ s1
  refine wpAny_evalAll_cons (wpAny_bind (thn (hd pins s1 σ H1 _ I1 q1) fun dv s2 ⟨x, H2, I2, _, q2⟩ => wpAny_bind (wpAny_standAt (wpAny_pure (wpAny_evalAll_nil ?_)))))
  obtain ⟨b, ns, rfl, hq, hne, q⟩ := q2
  obtain ⟨u, rfl, rx⟩ := vals1 r1
  cases rx
  rw [hks]
  obtain ⟨its, r', pl, hz⟩ := I2.list hq
  have hi := intsAre_of r'
  obtain ⟨qs, e⟩ := hi.allInts.items
  obtain ⟨hsz, hmn⟩ := best_min hi e hne
  refine call_min_default (zs := qs) (I.ok.hd hc) (by rw [← e]; exact pl.isList) hsz fun v g t hv k => ?_
  obtain ⟨t', rfl⟩ := intItems_at hv
  exact ⟨.int _, H2, I2.kept (t' := t) k, ⟨t', rfl⟩, q _ hmn⟩
end
end L2

set_option Elab.async false
set_option linter.all false
set_option maxRecDepth 100000
set_option maxHeartbeats 4000000
namespace L2
open PySem PySem.Spec PyProof.Rows

/-! ### range(a, b, c), c above 0 -/
/-- lo, lo + st, .. : n of them -/
def Its (lo st : Int) (n : Nat) : It := ⟨fun i _ => i < n, fun i H x H' => H' = H ∧ x = .int (lo + i * st), fun i _ => n ≤ i⟩
theorem turn_step {P : Program} {w : World} {K : PySem.W.Frag} {tg : Expr} (it : Addr) (lo st : Int) (n : Nat) : Turn P w K tg (Its lo st n) [it] it (fun i h => IsRangeIter h it (lo + (i : Nat) * st) ((n : Int) - (i : Nat)) st) where
  mem := by simp
  obj := fun i h q b hb => by
    have e : b = it := by simpa using hb
    subst e
    exact ⟨_, q, fun v z => by
      have z' : Data.fields _ = Data.cell v := z
      cases z'⟩
  keep := fun i h h' q k => k it (by simp) _ q
  item := by
    intro X hP hw hK hc i pins s σ H E I hf q hg
    subst hP hw hK
    obtain ⟨f0, f1, f2, f3, f4, f5⟩ := hf it (by simp)
    have W := Walks.range (prog := X.prog) (w := X.w) (I.ok.hd hc) it lo st n
    refine W.item i s _ _ hg q fun v h' tk hv q' kk => ?_
    obtain ⟨t, rfl⟩ := hv
    have I1 : Inv X pins σ H { s with heap := h', toks := tk } := I.turned (fun b o hb e => kk b o (by simpa using hb) e) f0 f1 f3 f4 f5
    exact ⟨_, rfl, go_of (s := { s with heap := h', toks := tk }) (n := "range_iterator") q' rfl rfl (by decide) ⟨.int (lo + i * st), H, I1, ⟨t, rfl⟩, ⟨rfl, rfl⟩, q', fun b hb => (hf b hb).1⟩⟩
  done := by
    intro X hP hw hK hc i pins s σ H E I hf q hg
    subst hP hw hK
    obtain ⟨f0, f1, f2, f3, f4, f5⟩ := hf it (by simp)
    exact wpAny_pyNext_range_end (I.ok.hd hc) q (by have : n ≤ i := hg; omega) fun h' eb => ⟨rfl, I.turned (t' := s.toks) (fun b o hb e => eb b o hb e) f0 f1 f3 f4 f5⟩
  self := fun _ _ _ _ _ q h => wpAny_pyIter_rangeiter q h
section
variable {X : Cx} {tg : Expr}
/-- range(0, b, 32) -/
def iRng3 (ta : TA) : TI := fun σ H R => ta σ H fun vs H1 => ∃ b : Nat, vs = [.int 0, .int (b : Int), .int 32] ∧ b < 536870912 ∧ R (Its 0 32 ((b + 31) / 32)) H1
theorem rngSize (b : Nat) : Builtin.Range.rangeSize 0 b 32 = (((b + 31) / 32 : Nat) : Int) := by
  unfold Builtin.Range.rangeSize
  rw [if_pos (by decide)]
  split <;> omega
theorem dand {p q : Bool} (hp : p = true) (hq : q = true) : (p && q) = true := by rw [hp, hq]; rfl
theorem rngSmall {b : Nat} (h : b < 536870912) : Builtin.Range.small 0 b 32 = true := by
  unfold Builtin.Range.small Builtin.Range.rangeFitsLong
  rw [rngSize]
  generalize hn : (((b + 31) / 32 : Nat) : Int) = n
  have h1 : n ≤ 16777216 := by omega
  have h0 : 0 ≤ n := by omega
  have e : (2 : Int) ^ 63 = 9223372036854775808 := by decide
  rw [e, if_pos (by decide)]
  refine dand (dand (dand (dand (by decide) (dand (decide_eq_true ?_) (decide_eq_true ?_))) (by decide)) (dand (decide_eq_true ?_) (decide_eq_true ?_))) ?_
  · omega
  · omega
  · omega
  · omega
  · rw [Bool.or_eq_true]
    exact .inr (dand (decide_eq_true (by omega)) (decide_eq_true (by omega)))
theorem pi_range3 {a b c : Expr} {ta : TA} {p pos : Pos} (hg : Gl X "range") (hm : X.mg "range" = none) (ha : PA X [a, b, c] ta) (hs : starEach [a, b, c] X.env = [(false, eval a X.env), (false, eval b X.env), (false, eval c X.env)] := by rfl)
    (hs2 : starEach [b, c] X.env = [(false, eval b X.env), (false, eval c X.env)] := by rfl) : PI X tg (.Call (.Name "range" p) [a, b, c] [] pos) (iRng3 ta) := by
  intro pins s σ H R I h
  refine Call_ (ld_blt I hg hm boot_range (PyProof.Rows.callWith_type1 (thn (ha pos pins s σ H _ I h) fun us s1 ⟨vs, H1, I1, r1, q1⟩ => ?_) (by rw [hs, hs2]) (by rw [hs2]; rfl)))
  obtain ⟨y, e, l1, q⟩ := q1
  subst e
  cases r1 with
  | cons r rr =>
    cases rr with
    | cons r' rr =>
      cases rr with
      | cons r'' rr =>
        cases rr
        obtain ⟨t, rfl⟩ := r
        obtain ⟨t', rfl⟩ := r'
        obtain ⟨t'', rfl⟩ := r''
        refine call_range_3 (by decide) ?_ (.inl (PyProof.noPylong_small (by omega)))
        refine wpAny_pyIter_range (IsRange.new ..) (rngSmall l1) ?_
        have I2 : Inv X pins σ H1 { s1 with heap := s1.heap.push { cls := .type "range", data := .fields #[.int 0 t, .int y t', .int 32 t''] }, toks := s1.toks } := I1.kept fun b o e => Heap.get?_push_of_some _ e
        refine ⟨(s1.heap.push { cls := .type "range", data := .fields #[.int 0 t, .int y t', .int 32 t''] }).objs.size, [(s1.heap.push { cls := .type "range", data := .fields #[.int 0 t, .int y t', .int 32 t''] }).objs.size], _, _, H1, rfl,
          I2.kept (t' := s1.toks) fun b o e => Heap.get?_push_of_some _ e, turn_step _ 0 32 ((y + 31) / 32), ?_, fun b hb => ?_, q⟩
        · have e1 : (0 : Int) + ((0 : Nat) : Int) * 32 = 0 := by decide
          have e2 : (((y + 31) / 32 : Nat) : Int) - ((0 : Nat) : Int) = Builtin.Range.rangeSize 0 y 32 := by rw [rngSize]; simp
          show IsRangeIter _ _ ((0 : Int) + ((0 : Nat) : Int) * 32) ((((y + 31) / 32 : Nat) : Int) - ((0 : Nat) : Int)) 32
          rw [e1, e2]
          exact Heap.get?_push_size _ rfl
        · have e : b = (s1.heap.push { cls := .type "range", data := .fields #[.int 0 t, .int y t', .int 32 t''] }).objs.size := by simpa using hb
          subst e
          exact I2.fpOk (Nat.le_refl _) (I2.hok.fresh (Nat.le_refl _))
end
/-- over range(a, b, c) -/
theorem for_step {lo st : Int} {n : Nat} {g : TG} {tb : TS} {D : Ends} {σ : St} {H : Hp} (Pv : Nat → St → Hp → Prop) (h0 : Pv 0 σ H)
    (hs : ∀ (i : Nat) σ H, i < n → Pv i σ H → g (.int (lo + i * st)) σ H fun σ2 H2 => tb { D with nx := Pv (i + 1), ct := Pv (i + 1), bk := D.nx } σ2 H2) (hd : ∀ σ H, Pv n σ H → D.nx σ H) :
    ∃ W : Nat → Nat → St → Hp → Prop, (∃ m, W 0 m σ H) ∧ ∀ i m σ H, W i m σ H →
      ((Its lo st n).stop i H ∧ D.nx σ H) ∨ ((Its lo st n).go i H ∧ ∃ N : St → Hp → Prop, (∀ σ' H', N σ' H' → ∃ m', m' < m ∧ W (i + 1) m' σ' H') ∧ ∀ x H', (Its lo st n).yld i H x H' → g x σ H' fun σ2 H2 => tb { D with nx := N, ct := N, bk := D.nx } σ2 H2) := by
  refine ⟨fun i m σ H => m = n - i ∧ i ≤ n ∧ Pv i σ H, ⟨n, by simp, Nat.zero_le _, h0⟩, ?_⟩
  rintro i m σ H ⟨rfl, hi, p⟩
  by_cases hlt : i < n
  · refine .inr ⟨hlt, Pv (i + 1), fun σ' H' p' => ⟨n - (i + 1), by omega, rfl, hlt, p'⟩, fun x H' y => ?_⟩
    obtain ⟨rfl, rfl⟩ := y
    exact hs i σ _ hlt p
  · have e : i = n := by omega
    subst e
    exact .inl ⟨Nat.le_refl _, hd σ H p⟩

/-! ### reversed(xs) of a list -/
def Itv (K : PySem.W.Frag) (a : Addr) (xs : List V) : It :=
  ⟨fun i H => SqL K H a xs ∧ i < xs.length, fun i H x H' => H' = H ∧ xs[xs.length - 1 - i]? = some x, fun i _ => xs.length ≤ i⟩
theorem turn_rev {P : Program} {w : World} {K : PySem.W.Frag} {tg : Expr} (a it : Addr) (xs : List V) : Turn P w K tg (Itv K a xs) [it] it (fun i h => i ≤ xs.length ∧ h.IsRevIter it a ((xs.length : Int) - 1 - (i : Nat))) where
  mem := by simp
  obj := fun i h st b hb => by
    have e : b = it := by simpa using hb
    subst e
    obtain ⟨_, o, e, c, d⟩ := st
    exact ⟨o, e, fun v z => by rw [d] at z; cases z⟩
  keep := fun i h h' st k => ⟨st.1, st.2.at fun o e => k it (by simp) o e⟩
  item := by
    intro X hP hw hK hc i pins s σ H E I hf st hg
    subst hP hw hK
    obtain ⟨hq, hi⟩ := hg
    obtain ⟨its, rv, p, hz⟩ := I.list hq
    obtain ⟨x, hx⟩ : ∃ x, xs[xs.length - 1 - i]? = some x := ⟨_, List.getElem?_eq_getElem (by omega)⟩
    obtain ⟨u, hu, ru⟩ := rv.get hx
    obtain ⟨f0, f1, f2, f3, f4, f5⟩ := hf it (by simp)
    obtain ⟨hle, st⟩ := st
    have e : (xs.length : Int) - 1 - (i : Nat) = ((xs.length - 1 - i : Nat) : Int) := by omega
    rw [e] at st
    refine wpAny_pyNext_rev_item st p.isList (x := u) (by simpa using hu) fun h' st' sb => ?_
    have I1 : Inv X pins σ H { s with heap := h' } := I.turned (t' := s.toks) (fun b o hb e => (sb.2 b hb).trans e) f0 f1 f3 f4 f5
    have e2 : ((xs.length - 1 - i : Nat) : Int) - 1 = (xs.length : Int) - 1 - ((i + 1 : Nat) : Int) := by omega
    rw [e2] at st'
    obtain ⟨o, e, c, d⟩ := id st'
    exact ⟨u, rfl, go_of (s := { s with heap := h' }) e c d (by decide) ⟨x, H, I1, ru, ⟨rfl, hx⟩, ⟨by omega, st'⟩, fun b hb => (hf b hb).1⟩⟩
  done := by
    intro X hP hw hK hc i pins s σ H E I hf st hg
    subst hP hw hK
    obtain ⟨f0, f1, f2, f3, f4, f5⟩ := hf it (by simp)
    obtain ⟨hle, st⟩ := st
    have e : (xs.length : Int) - 1 - (i : Nat) = -1 := by have : xs.length ≤ i := hg; omega
    rw [e] at st
    exact wpAny_pyNext_rev_end (I.ok.hd hc) st fun h' eb => ⟨rfl, I.turned (t' := s.toks) (fun b o hb e => eb b o hb e) f0 f1 f3 f4 f5⟩
  self := fun _ _ _ _ _ st h => wpAny_pyIter_revIter st.2 h
section
variable {X : Cx} {tg : Expr}
def iRev (K : PySem.W.Frag) (ta : TA) : TI := fun σ H R => ta σ H fun vs H1 => ∃ a xs, vs = [.ref a] ∧ SqL K H1 a xs ∧ R (Itv K a xs) H1
theorem pi_rev {a : Expr} {ta : TA} {p pos : Pos} (hg : Gl X "reversed") (hm : X.mg "reversed" = none) (ha : PA X [a] ta) (hv : bootBuiltins "reversed" = some (.type "reversed")) (hs : starEach [a] X.env = [(false, eval a X.env)] := by rfl) :
    PI X tg (.Call (.Name "reversed" p) [a] [] pos) (iRev X.K ta) := by
  intro pins s σ H R I h
  refine Call_ (ld_blt I hg hm hv (PyProof.Rows.callWith_type1 (thn (ha pos pins s σ H _ I h) fun us s1 ⟨vs, H1, I1, r1, q1⟩ => ?_) hs rfl))
  obtain ⟨b, xs, e, hq, q⟩ := q1
  subst e
  obtain ⟨u, rfl, rx⟩ := vals1 r1
  cases rx
  obtain ⟨its, rv, pl, hz⟩ := I1.list hq
  refine call_reversed_list pl.isList ?_
  have hl := rv.length
  have st : ({ s1 with heap := s1.heap.push (revObj b ((its.toArray.size : Int) - 1)) } : Shared).heap.IsRevIter s1.heap.objs.size b ((xs.length : Int) - 1 - ((0 : Nat) : Int)) := by
    refine ⟨_, Heap.get?_push_size _ rfl, rfl, ?_⟩
    show Data.fields #[.ref b, rawInt ((its.toArray.size : Int) - 1)] = _
    have e : (its.toArray.size : Int) - 1 = (xs.length : Int) - 1 - ((0 : Nat) : Int) := by simp; omega
    rw [e]
  refine wpAny_pyIter_revIter st ?_
  have I2 : Inv X pins σ H1 { s1 with heap := s1.heap.push (revObj b ((its.toArray.size : Int) - 1)) } := I1.kept (t' := s1.toks) fun c o e => Heap.get?_push_of_some _ e
  refine ⟨s1.heap.objs.size, [s1.heap.objs.size], _, Itv X.K b xs, H1, rfl, I2, turn_rev b _ xs, ⟨Nat.zero_le _, st⟩, fun c hc => ?_, q⟩
  have e : c = s1.heap.objs.size := by simpa using hc
  subst e
  exact I1.fpOk (Nat.le_refl _) (I1.hok.fresh (Nat.le_refl _))
end
/-- over reversed(xs), the list left as it is -/
theorem for_rev {K : PySem.W.Frag} {a : Addr} {xs : List V} {g : TG} {tb : TS} {D : Ends} {σ : St} {H : Hp} (Pv : Nat → St → Hp → Prop) (h0 : Pv 0 σ H) (hl : ∀ i σ H, i ≤ xs.length → Pv i σ H → SqL K H a xs)
    (hs : ∀ i x σ H, i < xs.length → xs[xs.length - 1 - i]? = some x → Pv i σ H → g x σ H fun σ2 H2 => tb { D with nx := Pv (i + 1), ct := Pv (i + 1), bk := D.nx } σ2 H2) (hd : ∀ σ H, Pv xs.length σ H → D.nx σ H) :
    ∃ W : Nat → Nat → St → Hp → Prop, (∃ m, W 0 m σ H) ∧ ∀ i m σ H, W i m σ H →
      ((Itv K a xs).stop i H ∧ D.nx σ H) ∨ ((Itv K a xs).go i H ∧ ∃ N : St → Hp → Prop, (∀ σ' H', N σ' H' → ∃ m', m' < m ∧ W (i + 1) m' σ' H') ∧ ∀ x H', (Itv K a xs).yld i H x H' → g x σ H' fun σ2 H2 => tb { D with nx := N, ct := N, bk := D.nx } σ2 H2) := by
  refine ⟨fun i m σ H => m = xs.length - i ∧ i ≤ xs.length ∧ Pv i σ H, ⟨xs.length, by simp, Nat.zero_le _, h0⟩, ?_⟩
  rintro i m σ H ⟨rfl, hi, p⟩
  by_cases hlt : i < xs.length
  · refine .inr ⟨⟨hl i σ H hi p, hlt⟩, Pv (i + 1), fun σ' H' p' => ⟨xs.length - (i + 1), by omega, rfl, hlt, p'⟩, fun x H' y => ?_⟩
    obtain ⟨rfl, hx⟩ := y
    exact hs i x σ _ hlt hx p
  · have e : i = xs.length := by omega
    subst e
    exact .inl ⟨Nat.le_refl _, hd σ H p⟩
end L2

set_option Elab.async false
set_option linter.all false
set_option maxRecDepth 100000
set_option maxHeartbeats 4000000
namespace L2
open PySem PySem.Spec PyProof.Rows

/-! ### == and != of lists and tuples -/
mutual
/-- what a value is as data -/
inductive DatV (K : PySem.W.Frag) (H : Hp) : V → PyData → Prop where
  | non : DatV K H .non .none
  | bl (b : Bool) : DatV K H (.bl b) (.bool b)
  | int (i : Int) : DatV K H (.int i) (.int i)
  | str (x : Str) : DatV K H (.str x) (.str x)
  | lst {a : Addr} {xs : List V} {ds : List PyData} (h : SqL K H a xs) (r : DatVs K H xs ds) : DatV K H (.ref a) (.list ds)
  | tup {a : Addr} {xs : List V} {ds : List PyData} (h : SqT K H a xs) (r : DatVs K H xs ds) : DatV K H (.ref a) (.tuple ds)
inductive DatVs (K : PySem.W.Frag) (H : Hp) : List V → List PyData → Prop where
  | nil : DatVs K H [] []
  | cons {x : V} {xs : List V} {d : PyData} {ds : List PyData} (h : DatV K H x d) (r : DatVs K H xs ds) : DatVs K H (x :: xs) (d :: ds)
end
section
variable {X : Cx} {pins : List (Addr × Obj)} {σ : St} {H : Hp} {s : Shared}
mutual
theorem DatV.reads (I : Inv X pins σ H s) {x : V} {d : PyData} {u : Value} : DatV X.K H x d → RelV x u → ∃ as, Reads s.heap u d as
  | .non, r => ⟨_, by cases (show u = Value.none from r); exact .none⟩
  | .bl b, r => ⟨_, by cases (show u = Value.bool b from r); exact .bool b⟩
  | .int i, r => by
    obtain ⟨t, rfl⟩ := r
    exact ⟨_, .int i t⟩
  | .str y, r => by
    obtain ⟨t, rfl⟩ := r
    exact ⟨_, .str y t⟩
  | .lst (a := a) h q, r => by
    cases (show u = Value.ref a from r)
    obtain ⟨its, rv, p, _⟩ := I.list h
    obtain ⟨as, ra⟩ := DatVs.reads I q rv
    obtain ⟨o, n, e, c, _, d⟩ := p
    exact ⟨_, .list e c d (by simpa using ra)⟩
  | .tup (a := a) h q, r => by
    cases (show u = Value.ref a from r)
    obtain ⟨its, rv, p, _⟩ := I.tuple h
    obtain ⟨as, ra⟩ := DatVs.reads I q rv
    obtain ⟨o, e, c, n, d⟩ := p
    exact ⟨_, .tuple e c d (by simpa using ra)⟩
theorem DatVs.reads (I : Inv X pins σ H s) {xs : List V} {ds : List PyData} {us : List Value} : DatVs X.K H xs ds → Vals xs us → ∃ as, ReadsAll s.heap us ds as
  | .nil, r => by
    cases r
    exact ⟨_, .nil⟩
  | .cons h q, r => by
    cases r with
    | cons r1 r2 =>
      obtain ⟨as, ra⟩ := DatV.reads I h r1
      obtain ⟨bs, rb⟩ := DatVs.reads I q r2
      exact ⟨_, .cons ra rb⟩
end
end
/-- two lists of ints; any two things by their data -/
def rEqL (K : PySem.W.Frag) : R2 := fun x y H Q => ∃ (a b : Addr) (ns ms : List Int), x = .ref a ∧ y = .ref b ∧ SqL K H a (ns.map V.int) ∧ SqL K H b (ms.map V.int) ∧ Q (.bl (decide (ns = ms))) H
def rEqP (K : PySem.W.Frag) : R2 := fun x y H Q => ∃ d1 d2 : PyData, DatV K H x d1 ∧ DatV K H y d2 ∧ SeqAt.shaped d1 = true ∧ SeqAt.shaped d2 = true ∧ Q (.bl (PyData.eqv d1 d2)) H
def rNeL (K : PySem.W.Frag) : R2 := fun x y H Q => ∃ (a b : Addr) (ns ms : List Int), x = .ref a ∧ y = .ref b ∧ SqL K H a (ns.map V.int) ∧ SqL K H b (ms.map V.int) ∧ Q (.bl (!decide (ns = ms))) H
def rNeP (K : PySem.W.Frag) : R2 := fun x y H Q => ∃ d1 d2 : PyData, DatV K H x d1 ∧ DatV K H y d2 ∧ SeqAt.shaped d1 = true ∧ SeqAt.shaped d2 = true ∧ Q (.bl (!PyData.eqv d1 d2)) H
section
variable {X : Cx}
theorem op_eqD (hu : X.A.units + 64 < cLine) : OpR X (compareOp .Eq) (fun x y H Q => rEqL X.K x y H Q ∨ rEqP X.K x y H Q) := by
  intro pins s σ H x y u v Q I rx ry h
  rcases h with ⟨a, b, ns, ms, rfl, rfl, ha, hb, q⟩ | ⟨d1, d2, h1, h2, e1, e2, q⟩
  · cases (show u = Value.ref a from rx)
    cases (show v = Value.ref b from ry)
    obtain ⟨us, r1, p1, _⟩ := I.list ha
    obtain ⟨ws, r2, p2, _⟩ := I.list hb
    exact PySem.W.ke_eq_ints p1.isList p2.isList (intsAre_of r1) (intsAre_of r2) hu ⟨.bl _, H, I, rfl, q⟩
  · obtain ⟨as, ra⟩ := h1.reads I rx
    obtain ⟨bs, rb⟩ := h2.reads I ry
    exact eq_dataH ra rb e1 e2 hu ⟨.bl _, H, I, rfl, q⟩
theorem op_neD (hu : X.A.units + 64 < cLine) : OpR X (compareOp .NotEq) (fun x y H Q => rNeL X.K x y H Q ∨ rNeP X.K x y H Q) := by
  intro pins s σ H x y u v Q I rx ry h
  rcases h with ⟨a, b, ns, ms, rfl, rfl, ha, hb, q⟩ | ⟨d1, d2, h1, h2, e1, e2, q⟩
  · cases (show u = Value.ref a from rx)
    cases (show v = Value.ref b from ry)
    obtain ⟨us, r1, p1, _⟩ := I.list ha
    obtain ⟨ws, r2, p2, _⟩ := I.list hb
    exact PySem.W.ke_ne_ints p1.isList p2.isList (intsAre_of r1) (intsAre_of r2) hu ⟨.bl _, H, I, rfl, q⟩
  · obtain ⟨as, ra⟩ := h1.reads I rx
    obtain ⟨bs, rb⟩ := h2.reads I ry
    exact ne_dataH ra rb e1 e2 hu ⟨.bl _, H, I, rfl, q⟩
end
end L2

set_option Elab.async false
set_option linter.all false
set_option maxRecDepth 100000
set_option maxHeartbeats 4000000
namespace Tw
open PySem L2
/-! ### comprehensions whose items read the heap as it was -/
theorem comp_rngS {lo : Int} {n : Nat} {cap : L2.St} {tt : TT} {te : TE} {Qf : Addr → Hp → Prop} {H : Hp} (f : Nat → Int) (hl : n < sizeLine)
    (htt : ∀ (z : Int) (H' : Hp) (Q : Bool → Hp → Prop), Q true H' → tt (some (.int z) :: cap) H' Q) (hte : ∀ (i : Nat) (H' : Hp) (Q : VK), i < n → Same H H' → Q (.int (f i)) H' → te (some (.int (lo + i)) :: cap) H' Q)
    (q : ∀ D, H D = none → Qf D (upd H D (.lst (((List.range n).map f).map V.int)))) : rdComp (Itr lo n) cap tt te Qf H := by
  intro D hD
  refine ⟨fun i m ys H1 => m = n - i ∧ i ≤ n ∧ ys = ((List.range i).map f).map V.int ∧ H1 = upd H D (.lst ys), ⟨_, rfl, Nat.zero_le _, rfl, rfl⟩, ?_⟩
  rintro i m ys H1 ⟨rfl, hi, rfl, rfl⟩
  by_cases hlt : i < n
  · refine .inr ⟨hlt, fun v H2 y => ?_⟩
    obtain ⟨rfl, rfl⟩ := y
    refine htt _ _ _ ?_
    rw [if_pos rfl]
    refine hte i _ _ hlt (same_new hD _) ⟨upd_same, ?_, n - (i + 1), by omega, rfl, hlt, ?_, ?_⟩
    · rw [List.length_map, List.length_map, List.length_range]
      omega
    · rw [List.range_succ, List.map_append, List.map_append]
      rfl
    · rw [upd_upd]
  · have e : i = n := by omega
    subst e
    exact .inl ⟨Nat.le_refl _, q D hD⟩
theorem comp_mapS {K : PySem.W.Frag} {a : Addr} {ns : List Int} {cap : L2.St} {tt : TT} {te : TE} {Qf : Addr → Hp → Prop} {H : Hp} (g : Int → Int) (hS : SqL K H a (ns.map V.int)) (hl : ns.length < sizeLine)
    (htt : ∀ (z : Int) (H' : Hp) (Q : Bool → Hp → Prop), Q true H' → tt (some (.int z) :: cap) H' Q) (hte : ∀ (z : Int) (H' : Hp) (Q : VK), Same H H' → Q (.int (g z)) H' → te (some (.int z) :: cap) H' Q)
    (q : ∀ D, H D = none → Qf D (upd H D (.lst ((ns.map g).map V.int)))) : rdComp (Itl K a) cap tt te Qf H := by
  intro D hD
  refine ⟨fun i m ys H1 => m = ns.length - i ∧ i ≤ ns.length ∧ ys = ((ns.take i).map g).map V.int ∧ H1 = upd H D (.lst ys), ⟨_, rfl, Nat.zero_le _, rfl, rfl⟩, ?_⟩
  rintro i m ys H1 ⟨rfl, hi, rfl, rfl⟩
  have hS1 : SqL K (upd H D (.lst (((ns.take i).map g).map V.int))) a (ns.map V.int) := (same_new hD _).seq hS
  by_cases hlt : i < ns.length
  · have hg : (ns.map V.int)[i]? = some (.int ns[i]) := by
      rw [List.getElem?_map, List.getElem?_eq_getElem hlt]
      rfl
    refine .inr ⟨⟨_, _, hS1, hg⟩, fun v H2 y => ?_⟩
    obtain ⟨rfl, y⟩ := y
    have e := y _ hS1
    rw [hg] at e
    cases e
    refine htt _ _ _ ?_
    rw [if_pos rfl]
    refine hte _ _ _ (same_new hD _) ⟨upd_same, ?_, ns.length - (i + 1), by omega, rfl, hlt, ?_, ?_⟩
    · rw [List.length_map, List.length_map, List.length_take]
      omega
    · rw [List.take_add_one, List.getElem?_eq_getElem hlt, List.map_append, List.map_append]
      rfl
    · rw [upd_upd]
  · have e : i = ns.length := by omega
    subst e
    rw [List.take_length]
    rw [List.take_length] at hS1
    exact .inl ⟨⟨_, hS1, by rw [List.length_map]; exact Nat.le_refl _⟩, q D hD⟩
end Tw
namespace Tw
open PySem L2
theorem st_way {c A : Prop} [Decidable c] {D : Ends} {σ : St} {H : Hp} (R : St → Hp → Prop) (hR : R σ H) (h : ∀ σ' H', R σ' H' → D.nx σ' H') (hA : c → (∀ σ' H', R σ' H' → D.nx σ' H') → A) : if c then A else tNext D σ H := by
  by_cases q : c
  · rw [if_pos q]
    exact hA q h
  · rw [if_neg q]
    exact h _ _ hR
theorem st_wayN {c A : Prop} [Decidable c] {D : Ends} {σ : St} {H : Hp} (R : St → Hp → Prop) (hR : ¬ c → R σ H) (h : ∀ σ' H', R σ' H' → D.nx σ' H') (hA : c → (∀ σ' H', R σ' H' → D.nx σ' H') → A) : if c then A else tNext D σ H := by
  by_cases q : c
  · rw [if_pos q]
    exact hA q h
  · rw [if_neg q]
    exact h _ _ (hR q)
/-- [..] * n, n a name -/
theorem rep_way {t : TA} {i : Nat} {k : Int} {xs : List V} {σ : St} {H : Hp} {Q : VK} (ht : ∀ Q' : List V → Hp → Prop, Q' xs H → t σ H Q') (e : σ[i]? = some (some (.int k))) (hk : k ≤ 100000) (hx : xs.length ≤ 2) (h0 : -100000 ≤ k)
    (q : ∀ p H', H p = none → Same H H' → H' p = some (.lst (List.replicate k.toNat xs).flatten) → Q (.ref p) H') : tOp rRep (tLst t) (tVar i) σ H Q := by
  refine ht _ ⟨by rw [sizeLine_eq]; omega, fun p hp => ⟨_, e, p, k, xs, rfl, rfl, upd_same, by omega, by omega, ?_, fun r hr => q r _ ((same_new hp _).free hr) ((same_new hp _).trans (same_new hr _)) upd_same⟩⟩
  rw [sizeLine_eq]
  have : k.toNat ≤ 100000 := by omega
  have := Nat.mul_le_mul hx this
  omega
end Tw
namespace L2
open PySem PySem.Spec PyProof.Rows PySem.W
section
variable {X : Cx}
def rInsert : V → List V → Hp → VK → Prop := fun x vs H Q => ∃ l xs i y, x = .ref l ∧ vs = [.int i, y] ∧ H l = some (.lst xs) ∧ 0 ≤ i ∧ i ≤ xs.length ∧ xs.length < sizeLine ∧ Q .non (upd H l (.lst (xs.take i.toNat ++ y :: xs.drop i.toNat)))
theorem mt_insert : MtM X "list.insert" rInsert := by
  intro pins s σ H x vs v us Q I rx rv h
  obtain ⟨l, xs, i, y, rfl, rfl, hH, h1, h2, hz, q⟩ := h
  cases rx
  obtain ⟨u, u2, rfl, ru, ry⟩ := rv.two
  obtain ⟨t, rfl⟩ := ru
  obtain ⟨z, its, n, r, hl, e⟩ := I.lstM hH
  have hzz := hz
  rw [sizeLine_eq] at hzz
  refine call_meets F.slot_list_insert ⟨_, e, rfl⟩ F.entry_list_insert (F.args_list_insert_3 _ _ _)
    (PySem.AutoSeq1.list_insert_list_int_val_1 l its.toArray n i t u2 (by rw [fitsIndex_both (by omega) (by omega)]; decide) (by rw [List.size_toArray]; omega)) ⟨e, ?_⟩
  refine ⟨.non, _, I.lset (its' := its.take i.toNat ++ u2 :: its.drop i.toNat) hH e ?_ ((r.take _).append (.cons ry (r.drop _))) ?_, rfl, q⟩
  · show (its.toArray.extract 0 (if i < 0 then (i + (its.toArray.size : Int)).toNat else min i.toNat its.toArray.size)).push u2 ++ its.toArray.extract (if i < 0 then (i + (its.toArray.size : Int)).toNat else min i.toNat its.toArray.size) = _
    rw [kl_ins_eq, if_neg (by omega), List.size_toArray, Nat.min_eq_left (by omega)]
  · rw [List.length_append, List.length_cons, List.length_take, List.length_drop]
    omega
end
end L2
namespace Tw
open PySem L2
end Tw
namespace Tw
open PySem L2
/-- if a and b: .. -/
theorem and_way {c1 U A : Prop} [Decidable c1] {D : Ends} {σ : St} {H : Hp} (N : D.nx σ H) (hU : c1 → D.nx σ H → U) : if c1 then U else (if false = true then A else tNext D σ H) := by
  by_cases q : c1
  · rw [if_pos q]
    exact hU q N
  · rw [if_neg q]
    exact iteF N
/-- the items of a list of ints that pass a test -/
theorem comp_filtS {K : PySem.W.Frag} {a : Addr} {ns : List Int} {cap : L2.St} {tt : TT} {te : TE} {Qf : Addr → Hp → Prop} {H : Hp} (p : Int → Bool) (hS : SqL K H a (ns.map V.int)) (hl : ns.length < sizeLine)
    (htt : ∀ (z : Int) (H' : Hp) (Q : Bool → Hp → Prop), Same H H' → Q (p z) H' → tt (some (.int z) :: cap) H' Q) (hte : ∀ (z : Int) (H' : Hp) (Q : VK), Same H H' → Q (.int z) H' → te (some (.int z) :: cap) H' Q)
    (q : ∀ D, H D = none → Qf D (upd H D (.lst ((ns.filter p).map V.int)))) : rdComp (Itl K a) cap tt te Qf H := by
  intro D hD
  refine ⟨fun i m ys H1 => m = ns.length - i ∧ i ≤ ns.length ∧ ys = ((ns.take i).filter p).map V.int ∧ H1 = upd H D (.lst ys), ⟨_, rfl, Nat.zero_le _, rfl, rfl⟩, ?_⟩
  rintro i m ys H1 ⟨rfl, hi, rfl, rfl⟩
  have hS1 : SqL K (upd H D (.lst (((ns.take i).filter p).map V.int))) a (ns.map V.int) := (same_new hD _).seq hS
  by_cases hlt : i < ns.length
  · have hg : (ns.map V.int)[i]? = some (.int ns[i]) := by
      rw [List.getElem?_map, List.getElem?_eq_getElem hlt]
      rfl
    have et : ns.take (i + 1) = ns.take i ++ [ns[i]] := by
      rw [List.take_add_one, List.getElem?_eq_getElem hlt]
      rfl
    refine .inr ⟨⟨_, _, hS1, hg⟩, fun v H2 y => ?_⟩
    obtain ⟨rfl, y⟩ := y
    have e := y _ hS1
    rw [hg] at e
    cases e
    refine htt _ _ _ (same_new hD _) ?_
    have hz := List.length_filter_le p (ns.take i)
    rw [List.length_take] at hz
    by_cases hp : p ns[i] = true
    · rw [if_pos hp]
      refine hte _ _ _ (same_new hD _) ⟨upd_same, ?_, ns.length - (i + 1), by omega, rfl, hlt, ?_, ?_⟩
      · rw [List.length_map]
        omega
      · rw [et, List.filter_append, List.map_append, List.filter_cons_of_pos hp]
        rfl
      · rw [upd_upd]
    · rw [if_neg hp]
      refine ⟨ns.length - (i + 1), by omega, rfl, hlt, ?_, rfl⟩
      rw [et, List.filter_append, List.filter_cons_of_neg hp, List.filter_nil, List.append_nil]
  · have e : i = ns.length := by omega
    subst e
    rw [List.take_length]
    rw [List.take_length] at hS1
    exact .inl ⟨⟨_, hS1, by rw [List.length_map]; exact Nat.le_refl _⟩, q D hD⟩
end Tw

set_option Elab.async false
set_option linter.all false
set_option maxRecDepth 100000
set_option maxHeartbeats 4000000
namespace L2
open PySem PySem.Spec PyProof.Rows

/-! ### exceptions of own classes: raised, passing -/
theorem ObjOk.ex {P : Program} {w : World} {H : Hp} {h : Heap} {a : Addr} {o : HO} (x : ObjOk P w H h a o) : ∃ ob, h.get? a = some ob := by
  induction o with
  | lst xs => obtain ⟨z, its, n, r, e⟩ := x; exact ⟨_, e⟩
  | tup xs => obtain ⟨z, its, r, ob, e, c⟩ := x; exact ⟨_, e⟩
  | dK kvs => obtain ⟨z, y, vs, r, ob, es, ep, e, c⟩ := x; exact ⟨_, e⟩
  | dT kvs => obtain ⟨z, y, xs, r, ob, es, ep, e, c⟩ := x; exact ⟨_, e⟩
  | set S n => obtain ⟨ob, es, ep, t, e, c⟩ := x; exact ⟨_, e⟩
  | ins C dx fs => obtain ⟨d, z, ne, e, _⟩ := x; exact ⟨_, e⟩
  | own y => exact x
  | xd fs => obtain ⟨mA, ⟨od, es, ep, e, c⟩, r⟩ := x; exact ⟨_, e⟩
  | rng lo hi => obtain ⟨t, u, v, e⟩ := x; exact ⟨_, e⟩
  | frz ob u ih => exact ⟨_, x.1⟩
  | tbl ps => exact ⟨_, x⟩
  | met f y => exact ⟨_, x⟩
  | ext φ => exact x.2.1
/-- the heap B: what a passing exception leaves alone: all that stood there, frames aside, and all that is tracked -/
structure Cov (B : Heap) (fs : List Addr) (H H' : Hp) (h : Heap) : Prop where
  old : ∀ b o, h.get? b = some o → b ∉ fs → ∃ o', B.get? b = some o' ∧ (H b = none → o' = o)
  trk : ∀ b u, H' b = some u → ∃ o, B.get? b = some o
/-- how an exception of an own class lies behind a call -/
def CX1 (P : Program) (w : World) : CXT := fun outer H s E e s' => ∃ (ea C t : Addr) (B : Heap) (H' : Hp), e = .ref ea ∧ s'.os = s.os ∧ AllBare s'.gens ∧ Un (frs outer) [] H H' s.heap s'.heap ∧ HOk P w H' s'.heap ∧
    Heap.FlyingW B outer ea (.ref C) (.ref t) s'.heap ∧ Cov B (frs outer) H H' s.heap ∧ E (.ref C) none H'
section
variable {P : Program} {w : World} {K : PySem.W.Frag} {mg : Str → Option Value} {base : Heap} {N : List Str} {qual : Str} {scope : Scope} {f : Addr} {cd : Value} {A : Around} {outer : List Env} {s0 : Shared} {H0 : Hp} {E : XK}
abbrev X1 (P : Program) (w : World) (K : PySem.W.Frag) (mg : Str → Option Value) (base : Heap) (N : List Str) (qual : Str) (scope : Scope) (f : Addr) (cd : Value) (A : Around) (outer : List Env) (s0 : Shared) (H0 : Hp) (E : XK) : Cx :=
  cxOf (CX1 P w) P w K mg base N qual scope f cd A outer s0 H0 E
theorem young {b : Addr} {o : Obj} (q : s0.heap.get? b = some o) (hb : b ∉ frs outer) : b ∉ frs (envOfC qual scope s0.heap.objs.size f cd :: outer) := fun z => by
  have z' : b ∈ s0.heap.objs.size :: frs outer := z
  rcases List.mem_cons.mp z' with e | e
  · exact absurd (Heap.lt_size q) (by rw [e]; exact Nat.lt_irrefl _)
  · exact hb e
theorem raised {pins : List (Addr × Obj)} {σ : St} {H : Hp} {s : Shared} {h1 : Heap} {ea C : Addr} {vs : List Value} (I : Inv (X1 P w K mg base N qual scope f cd A outer s0 H0 E) pins σ H s) (m : Heap.MadeExcOf s.heap h1 ea (.ref C) vs) (q : E (.ref C) none H) :
    (X1 P w K mg base N qual scope f cd A outer s0 H0 E).xe (.ref ea) { s with heap := h1 } := by
  have stk : s.heap.FunFrames base (envOfC qual scope s0.heap.objs.size f cd :: outer) := I.stack
  have hin : ∀ env ∈ (envOfC qual scope s0.heap.objs.size f cd :: outer), ∀ b, env.frame = some b → b ∈ frs (envOfC qual scope s0.heap.objs.size f cd :: outer) := fun env he b hb => List.mem_filterMap.mpr ⟨env, he, hb⟩
  have U : Un (frs outer) [] H0 H s0.heap s.heap := I.base
  have nofr : ∀ b u, H b = some u → b ∉ frs (envOfC qual scope s0.heap.objs.size f cd :: outer) := fun b u e z => by
    have := I.stkFree b z
    rw [this] at e
    cases e
  have inB : ∀ b o, s.heap.get? b = some o → b ∉ frs (envOfC qual scope s0.heap.objs.size f cd :: outer) → (PySem.W.hideAll s.heap (frs (envOfC qual scope s0.heap.objs.size f cd :: outer))).get? b = some o := fun b o e n => PySem.W.hideAll_get _ e n
  show wpAny _ _ (leaving _ _) _ _ _
  refine wpAny_leaves_madeW (base := PySem.W.hideAll s.heap (frs (envOfC qual scope s0.heap.objs.size f cd :: outer))) I.ok.frames rfl (fun b o e => PySem.W.of_hideAll _ e) (PySem.W.funFrames_hide stk hin) m fun h2 t x1 x2 x3 x4 => ?_
  have kept := x1.1
  have fr : ∀ b o, s.heap.get? b = some o → b ∈ frs outer → ∃ sl, h2.get? b = some { o with slots := sl } := fun b o e hb => by
    obtain ⟨_, o', ho', nf⟩ := stk.mem (b := b) (List.mem_cons_of_mem _ hb)
    rw [e] at ho'
    cases ho'
    exact x4 b o (m.keeps _ _ e) nf
  refine ⟨ea, C, t, _, H, rfl, I.os, I.bare, ⟨fun b o e n hb hx => ?_, fun b o e n hb hx => ?_, U.free, fun b o e hx => ?_, U.tups, U.frzs, U.tbls⟩, fun b u e => ?_, x1, ⟨fun b o e hb => ?_, fun b u e => ?_⟩, q⟩
  · exact kept b o (inB b o (U.keep b o e n hb hx) (young e hb))
  · obtain ⟨sl, e1⟩ := U.slot b o e n hb hx
    obtain ⟨sl', e2⟩ := fr b _ e1 hb
    exact ⟨sl', e2⟩
  · obtain ⟨o1, e1⟩ := U.there b o e hx
    by_cases hb : b ∈ frs outer
    · obtain ⟨sl, e2⟩ := fr b _ e1 hb
      exact ⟨_, e2⟩
    · exact ⟨o1, kept b o1 (inB b o1 e1 (young e hb))⟩
  · refine (I.hok b u e).stay (fun c o hc e1 => kept c o (inB c o e1 ?_)) (fun _ r => r) fun _ _ r => r
    rcases hc with rfl | hc
    · exact nofr _ _ e
    · exact nofr _ _ hc
  · obtain ⟨o1, e1⟩ := U.there b o e (by simp)
    refine ⟨o1, inB b o1 e1 (young e hb), fun n => ?_⟩
    have := U.keep b o e n hb (by simp)
    rw [e1] at this
    exact Option.some.inj this
  · obtain ⟨o, e1⟩ := (I.hok b u e).ex
    exact ⟨o, inB b o e1 (nofr b u e)⟩
/-- an exception of a callee leaves this frame, too -/
theorem pass1 : Passes (CX1 P w) (X1 P w K mg base N qual scope f cd A outer s0 H0 E) E := by
  intro pins σ H s e s' I h
  obtain ⟨ea, C, t, B, H', rfl, os, bare, un, hok, fl, cov, q⟩ := h
  have U : Un (frs outer) [] H0 H s0.heap s.heap := I.base
  show wpAny _ _ (leaving _ _) _ _ _
  refine wpAny_leaves_onW (base := B) I.ok.frames rfl fl fun h2 x1 x2 => ?_
  have kept := x1.1
  have fr : ∀ b o, s'.heap.get? b = some o → b ∈ frs outer → ∃ sl, h2.get? b = some { o with slots := sl } := fun b o e hb => by
    obtain ⟨_, o', ho', nf⟩ := fl.2.2.1.mem (b := b) (List.mem_cons_of_mem _ hb)
    rw [e] at ho'
    cases ho'
    exact x2 b o e nf
  refine ⟨ea, C, t, B, H', rfl, os.trans I.os, bare, ⟨fun b o e n hb hx => ?_, fun b o e n hb hx => ?_, fun b o e n hx => ?_, fun b o e hx => ?_, fun b xs e => un.tups b xs (U.tups b xs e), fun b o u e => un.frzs b o u (U.frzs b o u e), fun b ps e => ?_⟩, fun b u e => ?_, x1, ⟨fun b o e hb => ?_, cov.trk⟩, q⟩
  · obtain ⟨o', e2, z⟩ := cov.old b o (U.keep b o e n hb hx) (young e hb)
    rw [z (U.free b o e n hx)] at e2
    exact kept b o e2
  · obtain ⟨sl, e1⟩ := U.slot b o e n hb hx
    obtain ⟨sl', e2⟩ := un.slot b _ e1 (U.free b o e n hx) (List.mem_cons_of_mem _ hb) hx
    obtain ⟨sl2, e3⟩ := fr b _ e2 hb
    exact ⟨sl2, e3⟩
  · obtain ⟨o1, e1⟩ := U.there b o e hx
    exact un.free b o1 e1 (U.free b o e n hx) hx
  · obtain ⟨o1, e1⟩ := U.there b o e hx
    by_cases hb : b ∈ frs outer
    · obtain ⟨o2, e2⟩ := un.there b o1 e1 hx
      obtain ⟨sl, e3⟩ := fr b _ e2 hb
      exact ⟨_, e3⟩
    · obtain ⟨o', e2, _⟩ := cov.old b o1 e1 (young e hb)
      exact ⟨o', kept b o' e2⟩
  · obtain ⟨m1, e1⟩ := U.tbls b ps e
    obtain ⟨m2, e2⟩ := un.tbls b _ e1
    exact ⟨m1 ++ m2, by rw [e2, Array.append_assoc]⟩
  · refine (hok b u e).stay (fun c o hc e1 => ?_) (fun _ r => r) fun _ _ r => r
    have ht : ∃ o, B.get? c = some o := by
      rcases hc with rfl | hc
      · exact cov.trk _ _ e
      · exact cov.trk _ _ hc
    obtain ⟨o1, e2⟩ := ht
    have := fl.1 c o1 e2
    rw [e1] at this
    cases this
    exact kept c o e2
  · obtain ⟨o1, e1⟩ := U.there b o e (by simp)
    obtain ⟨o', e2, z⟩ := cov.old b o1 e1 (young e hb)
    refine ⟨o', e2, fun n => ?_⟩
    have := U.keep b o e n hb (by simp)
    rw [e1] at this
    rw [z (U.free b o e n (by simp))]
    exact Option.some.inj this
theorem passOwn : PassesOwn (model P w) (X1 P w K mg base N qual scope f cd A outer s0 H0 E).A (X1 P w K mg base N qual scope f cd A outer s0 H0 E).env (X1 P w K mg base N qual scope f cd A outer s0 H0 E).xe := PassesOwn.leaving
end
section
variable {P : Program} {w : World} {K : PySem.W.Frag} {mg : Str → Option Value} {base : Heap}
/-- the rule for a def that may raise -/
theorem Fun.ok1 {x qual : Str} {st : Stmt} {f : Addr} {fd : FuncData} {N ps : List Str} {k : Nat} {sp : Sp} (F : Fun K x qual st f fd) (S : FnScope N ps (defScope st)) (len : ∀ vs H Q E, sp vs H Q E → vs.length = ps.length)
    (hbody : ∀ (cdv : Value) (A : Around) (outer : List Env) (s : Shared) (H : Hp) (vs : List V) (Q : VK) (E : XK), Room k (A.deeper (envOfC qual (defScope st) s.heap.objs.size f cdv)) → sp vs H Q E →
      ∃ t, PSs (X1 P w K mg base N qual (defScope st) f cdv A outer s H E) (defBody st) t ∧ t { nx := fun _ H' => Q .non H', rt := Q } (start N vs) H) : FnOk P w K mg base (CX1 P w) (k + 1) f fd ps sp := by
  obtain ⟨oc, od, kV, doc, pm, an, cdv, ct, osl, rfl, lk, hcd⟩ := F.ex
  exact fn_of lk hcd S len fun A outer s H vs Q E hr hsp => hbody cdv A outer s H vs Q E hr hsp
end
/-! ### an own class under ValueError -/
abbrev bmV : List Value := [.type "ValueError", .type "Exception", .type "BaseException", .type "object"]
structure Exc (K : PySem.W.Frag) (mg : Str → Option Value) (x : Str) (C : Addr) : Prop where
  m : mg x = some (.ref C)
  q : PySem.W.excIn K C bmV "ValueError.__new__" = true
theorem exc_obj {K : PySem.W.Frag} {h : Heap} {C : Addr} (X : K.In h) (q : PySem.W.excIn K C bmV "ValueError.__new__" = true) :
    ∃ bm N nm qn bs hdct sn sub ab col dd k0 k1 k2 k3 k5 mN, h.get? C = some (excClassObj nm qn C N bs bm hdct sn sub ab col dd k0 k1 k2 k3 k5 "ValueError.__new__") ∧ h.Ns N mN ∧ mN "__init__" = none ∧ OwnTail h bmV bm := by
  unfold PySem.W.excIn at q
  split at q
  · rename_i dd cd sl ho
    split at q
    · rename_i C' bm k0 k1 k2 k3 n k5 hm hs
      simp only [Bool.and_eq_true, beq_iff_eq, Bool.not_eq_true'] at q
      obtain ⟨⟨⟨⟨⟨rfl, rfl⟩, hdel⟩, ht⟩, hok⟩, hni⟩ := q
      obtain ⟨nm, bs, mro, ns, qn, hd, sn, sub, ab, col, del⟩ := cd
      dsimp only at hm hdel hok hni
      subst hm hdel
      have hsl : sl = #[k0, k1, k2, k3, some (.builtin "ValueError.__new__"), k5] := by
        obtain ⟨l⟩ := sl
        simp only at hs
        rw [hs]
      subst hsl
      exact ⟨bm, ns, nm, qn, bs, hd, sn, sub, ab, col, dd, k0, k1, k2, k3, k5, _, X _ _ ho, .of_isNs (PySem.W.isNs_of_in X hok), PySem.W.nsMap_none_of_in X hok hni, PySem.W.tail_of_in X ht⟩
    · cases q
  · cases q
section
variable {P : Program} {w : World} {K : PySem.W.Frag} {mg : Str → Option Value} {base : Heap} {N : List Str} {qual : Str} {scope : Scope} {f : Addr} {cd : Value} {A : Around} {outer : List Env} {s0 : Shared} {H0 : Hp} {E : XK}
/-- raise C(a) -/
def tRaise (C : Addr) (E : XK) (ta : TA) : TS := fun _ σ H => ta σ H fun vs H1 => vs.length ≤ sizeLine ∧ E (.ref C) none H1
theorem ps_raise {x : Str} {C : Addr} {a : Expr} {ta : TA} {np cpos pos : Pos} (e : Exc K mg x C) (hg : Gl (X1 P w K mg base N qual scope f cd A outer s0 H0 E) x) (ha : PA (X1 P w K mg base N qual scope f cd A outer s0 H0 E) [a] ta)
    (hdb : (x == ("__debug__" : Str)) = false := by decide)
    (he : starEach [a] (X1 P w K mg base N qual scope f cd A outer s0 H0 E).env = [(false, eval a (X1 P w K mg base N qual scope f cd A outer s0 H0 E).env)] := by rfl) :
    PS (X1 P w K mg base N qual scope f cd A outer s0 H0 E) (.Raise (some (.Call (.Name x np) [a] [] cpos)) none pos) (tRaise C E ta) := by
  intro pins s σ H D I h
  obtain ⟨bm, N', nm, qn, bs, hdct, sn, sub, ab, col, dd, k0, k1, k2, k3, k5, mN, hC, hN, hni, T⟩ := exc_obj I.mod.kin e.q
  refine wpAny_Raise_call_subU (C := C) (nm := nm) (q := qn) (N := N') (bs := bs) (bm := bm) (hdct := hdct) (sn := sn) (sub := sub) (ab := ab) (col := col) (dd := dd) (k0 := k0) (k1 := k1) (k2 := k2) (k3 := k3) (k5 := k5)
    PySem.F.excBase_ValueError PySem.F.excBase_ValueError.hasB PySem.F.excBase_ValueError (mN := mN) (T.hasType PySem.F.excBase_ValueError.hasBase) (I.ok.hd rfl) (by rw [he]; rfl) hni (ld_glob I hg e.m ⟨rfl, ?_⟩ hdb)
  have h2 := ha cpos pins s σ H _ I h
  rw [he] at h2 ⊢
  refine Calls.evalArgs_plain (thn h2 fun us s2 ⟨vs, H2, I2, r2, q1, q2⟩ => ⟨rfl, ?_, I2.bk _ _ hC, hN.keeps I2.bk, T.keeps I2.bk, fun h' ea m => raised I2 m q2⟩)
  rw [← r2.length]
  exact q1
end
/-! ### isinstance(e, C) of an exception -/
/-- an exception of the class at C -/
def excO (ea C : Addr) : HO := .ext fun h => ∃ o vs, h.get? ea = some o ∧ o.cls = .ref C ∧ o.data = .fields vs
/-- what of the text an own exception class has, as far as an instance is asked for its class -/
structure ExcK (K : PySem.W.Frag) (C : Addr) : Prop where
  dct : PySem.W.hasDictIn K C = true
  ga : PySem.W.findIn K (.ref C) "__getattribute__" = some (some (.builtin "BaseException.__getattribute__"))
  nga : PySem.W.findIn K (.ref C) "__getattr__" = some none
  cl : PySem.W.findIn K (.ref C) "__class__" = some (some (.builtin "object.__class__"))
  gt : PySem.W.specialIn K (.builtin "object.__class__") "__get__" = some (some (.builtin "getset_descriptor.__get__"))
  tk : PySem.W.takesIn K (.builtin "object.__class__") = some true
  mo : PySem.W.mroIn K C (.type "object") = some true
  mb : PySem.W.mroIn K C (.type "BaseException") = some true
/-! ### try: f(..) except C as e: .. -/
def Cx.suite (X : Cx) (ea : Addr) : Cx := { X with A := X.A.mark (some (.ref ea)), calm := false, xe := fun _ _ => False }
section
variable {X : Cx} {pins : List (Addr × Obj)} {σ : St} {H : Hp} {s : Shared} {ea : Addr}
theorem Cx.Ok.suite (ok : X.Ok) : (X.suite ea).Ok :=
  ⟨ok.mod, ok.kind, ok.glob, ok.blt, ok.above, ok.inj, ok.has, ok.cab, fun z => absurd z Bool.false_ne_true, ok.frames, ok.stk, ok.exf, ok.bs, ok.bsz, ok.noex, ok.exfs, ok.funs, ok.frf⟩
theorem Inv.suite (I : Inv X pins σ H s) : Inv (X.suite ea) pins σ H s := ⟨I.ok.suite, I.os, I.bare, I.base, I.loc, I.cell, I.free, I.freeC, I.pin, I.hok, I.len⟩
theorem Inv.unsuite (ok : X.Ok) (I : Inv (X.suite ea) pins σ H s) : Inv X pins σ H s := ⟨ok, I.os, I.bare, I.base, I.loc, I.cell, I.free, I.freeC, I.pin, I.hok, I.len⟩
/-- the name goes -/
theorem name_goes {M : Model} {A : Around} {E : Value → Shared → Prop} {i : Nat} {n : Str} {pos : Pos} {Q : Unit → Shared → Prop} (I : Inv X pins σ H s) (hN : X.N.Nodup) (hi : X.N[i]? = some n) (hl : X.env.scope.names.lookup n = some .local)
    (h : ∀ s', Inv X pins (σ.set i none) H s' → Q () s') : wpAny M A (do bindName X.env n .none; unbindBehindTheSuite X.env n pos) Q E s := by
  obtain ⟨m, hn, hloc⟩ := id I.loc
  have hcls : (X.env.scope.kind == .class || (X.env.scope.kind == .module && X.env.locals != X.env.globals)) = false := by rw [I.ok.kind]; rfl
  have hiσ : i < σ.length := by rw [I.len]; exact (List.getElem?_eq_some_iff.mp hi).1
  have cne := I.cne
  obtain ⟨oL, _, _, hoL, _⟩ := id hn
  refine wpAny_nameGoes_keeps hl hn hcls fun h' v hn' hs => ?_
  have old : ∀ b o, X.s₀.heap.get? b = some o → b ≠ X.env.locals := fun b o e => Nat.ne_of_lt (Nat.lt_of_lt_of_le (Heap.lt_size e) I.ok.above)
  refine h _ ⟨I.ok, I.os, I.bare, ⟨fun b o e n' hb hx => ?_, fun b o e n' hb hx => ?_, I.base.free, fun b o e hx => ?_, I.base.tups, I.base.frzs, I.base.tbls⟩, ⟨_, hn', fun j y v' e1 e2 e3 => ?_⟩, fun y c e => ?_, I.free, I.freeC, fun p hp => ?_, fun b ob e => ?_, by simpa using I.len⟩
  · exact (hs.2 b (old b o e)).trans (I.base.keep b o e n' hb hx)
  · obtain ⟨sl, e1⟩ := I.base.slot b o e n' hb hx
    exact ⟨sl, (hs.2 b (old b o e)).trans e1⟩
  · obtain ⟨o', e1⟩ := I.base.there b o e hx
    exact ⟨o', (hs.2 b (old b o e)).trans e1⟩
  · by_cases hj : j = i
    · subst hj
      rw [List.getElem?_set_self hiσ] at e2
      cases e2
    · rw [List.getElem?_set_ne (Ne.symm hj)] at e2
      obtain ⟨u', r', q⟩ := hloc j y v' e1 e2 e3
      refine ⟨u', r', ?_⟩
      rcases q with ⟨k, e⟩ | ⟨k, c, e, z⟩
      · refine .inl ⟨k, ?_⟩
        have : y ≠ n := fun e => hj (nodup_ix hN e1 (e ▸ hi))
        simp [this, e]
      · exact .inr ⟨k, c, e, z.sameBut hs (cne y c e)⟩
  · obtain ⟨w', z⟩ := I.cell y c e
    exact ⟨w', z.sameBut hs (cne y c e)⟩
  · obtain ⟨e, n', ne, nf, d⟩ := I.pin p hp
    exact ⟨(hs.2 p.1 ne).trans e, n', ne, nf, d⟩
  · refine (I.hok b ob e).stay (fun c w' hc q => (hs.2 c ?_).trans q) (fun _ q => q) fun _ _ q => q
    intro z
    rcases hc with hc | hc
    · rw [← hc, z, I.free] at e
      cases e
    · rw [z, I.free] at hc
      cases hc
/-- an exception has come to this frame; it is tracked from now on -/
theorem landed {C t : Addr} {B : Heap} {H' : Hp} {s' : Shared} {h6 : Heap} (I : Inv X pins σ H s) (os : s'.os = s.os) (bare : AllBare s'.gens) (un : Un (frs X.stack) [] H H' s.heap s'.heap) (hok : HOk X.prog X.w H' s'.heap)
    (fl : Heap.FlyingW B X.stack ea (.ref C) (.ref t) s'.heap) (cov : Cov B (frs X.stack) H H' s.heap) (fl6 : Heap.FlyingW B X.stack ea (.ref C) (.ref t) h6) (up : s'.heap.UpToSlots h6) :
    H' ea = none ∧ Inv X pins σ (upd H' ea (excO ea C)) { s' with heap := h6 } := by
  have nea : H' ea = none := by
    cases q : H' ea with
    | none => rfl
    | some u =>
      obtain ⟨o, e⟩ := cov.trk ea u q
      rw [fl.2.1] at e
      cases e
  obtain ⟨oe, vs, hoe, hoc, hod, _⟩ := fl6.first
  have fresh : s.heap.get? ea = none := by
    cases q : s.heap.get? ea with
    | none => rfl
    | some o =>
      by_cases hb : ea ∈ frs X.stack
      · obtain ⟨_, o', ho', nf⟩ := fl6.2.2.1.mem hb
        rw [hoe] at ho'
        cases ho'
        exact absurd hod (nf vs)
      · obtain ⟨o', e, _⟩ := cov.old ea o q hb
        rw [fl.2.1] at e
        cases e
  have fr : ∀ b o, s'.heap.get? b = some o → b ∈ frs X.stack → ∃ sl, h6.get? b = some { o with slots := sl } := fun b o e hb => by
    obtain ⟨_, o', ho', nf⟩ := fl.2.2.1.mem hb
    rw [e] at ho'
    cases ho'
    exact up b o e nf
  have ne : ∀ b u, H' b = some u → b ≠ ea := fun b u e => ne_of_none e nea
  refine ⟨nea, I.call' (ch := []) os ⟨fun b o e n hb hx => ?_, fun b o e n hb hx => ?_, fun b o e n hx => ?_, fun b o e hx => ?_, fun b xs e => ?_, fun b o u e => ?_, fun b ps e => ?_⟩ (fun b u e => ?_) bare fun b z => absurd z (by simp)⟩
  · obtain ⟨o', e2, z⟩ := cov.old b o e hb
    rw [z n] at e2
    exact fl6.1 b o e2
  · obtain ⟨sl, e1⟩ := un.slot b o e n hb hx
    obtain ⟨sl2, e2⟩ := fr b _ e1 hb
    exact ⟨sl2, e2⟩
  · have : b ≠ ea := fun z => by rw [z, fresh] at e; cases e
    rw [upd_ne this]
    exact un.free b o e n hx
  · by_cases hb : b ∈ frs X.stack
    · obtain ⟨o1, e1⟩ := un.there b o e hx
      obtain ⟨sl, e2⟩ := fr b _ e1 hb
      exact ⟨_, e2⟩
    · obtain ⟨o', e2, _⟩ := cov.old b o e hb
      exact ⟨o', fl6.1 b o' e2⟩
  · have q := un.tups b xs e
    rw [upd_ne (ne b _ q)]
    exact q
  · have q := un.frzs b o u e
    rw [upd_ne (ne b _ q)]
    exact q
  · obtain ⟨more, q⟩ := un.tbls b ps e
    exact ⟨more, by rw [upd_ne (ne b _ q)]; exact q⟩
  · by_cases hb : b = ea
    · subst hb
      rw [upd_same] at e
      cases e
      refine ⟨⟨oe, vs, hoe, hoc, hod⟩, ⟨oe, hoe⟩, fun h1 h2 p k => ?_⟩
      obtain ⟨o, ws, e1, e2, e3⟩ := p
      exact ⟨o, ws, k o e1, e2, e3⟩
    · rw [upd_ne hb] at e
      refine (hok b u e).stay (fun c o hc e1 => ?_) (fun c r => by rw [upd_ne (ne c _ r)]; exact r) fun c xs r => by rw [upd_ne (ne c _ r)]; exact r
      have ht : ∃ o, B.get? c = some o := by
        rcases hc with rfl | hc
        · exact cov.trk _ _ e
        · exact cov.trk _ _ hc
      obtain ⟨o1, e2⟩ := ht
      have := fl.1 c o1 e2
      rw [e1] at this
      cases this
      exact fl6.1 c o e2
end
/-- try: f(args) except C as n: suite -/
def tTry (sp : Sp) (t : TA) (i : Nat) (C : Addr) (ts : TS) : TS := fun D σ H => t σ H fun vs H1 => sp vs H1 (fun _ H2 => D.nx σ H2) fun cv _ H2 => cv = .ref C ∧ ∀ ea, H2 ea = none →
  ts { nx := fun σ3 H3 => D.nx (σ3.set i none) H3, rt := fun _ _ => False } (σ.set i (some (.ref ea))) (upd H2 ea (excO ea C))
theorem ps_tryCall {X : Cx} {k : Nat} {f C : Addr} {fd : FuncData} {ps : List Str} {sp : Sp} {fx cx n : Str} {p cpos epos np hpos pos : Pos} {e : Expr} {es : List Expr} {t : TA} {i : Nat} {b0 : Stmt} {suite : List Stmt} {ts : TS}
    (F : FnOk X.prog X.w X.K X.mg X.base (CX1 X.prog X.w) k f fd ps sp) (hr : Room k X.A) (hg : Gl X fx) (hm : X.mg fx = some (.ref f)) (hk : PySem.W.keepIn X.K (.ref f) = true) (hb : Binds X.K fd ps []) (ha : PA X.nox (e :: es) t)
    (ex : Exc X.K X.mg cx C) (hgc : Gl X cx) (hN : X.N.Nodup) (hi : X.N[i]? = some n) (hn : X.env.scope.names.lookup n = some .local) (hst : X.stack = X.env :: X.outer) (hfr : X.env.frame = some X.env.locals)
    (hs : ∀ ea, PSs (X.suite ea) (b0 :: suite) ts) (hdb : (fx == ("__debug__" : Str)) = false := by decide) (hdc : (cx == ("__debug__" : Str)) = false := by decide)
    (he : starEach (e :: es) X.env = (false, eval e X.env) :: starEach es X.env := by rfl) (hpl : (backTo cpos (starEach es X.env)).any (·.1) = false := by rfl)
    (hsw : swapsWith (.Call (.Name fx p) (e :: es) [] cpos) none epos.line X.env = pure false := by rfl) :
    PS X (.Try [.Expr (.Call (.Name fx p) (e :: es) [] cpos) epos] [.ExceptHandler (some (.Name cx np)) (some n) (b0 :: suite) hpos] [] [] pos) (tTry sp t i C ts) := by
  intro pins s σ H D I h
  refine wpAny_Try_except ?_
  refine wpAny_execs_cons (wpAny_Expr_any (wpAny_Call_Name_kw (ld_glob I hg hm ?_ hdb)) I.quiet hsw)
  have h2 := ha cpos pins s σ H _ (I.wish _) h
  refine PySem.W.callWith_K (h₀ := X.base) I.ok.mod.kin hk (wpAny_mono h2 (fun us s1 h3 => ?_) fun _ _ z => False.elim z) he hpl
  obtain ⟨vs, H1, I1, r, q⟩ := h3
  refine ⟨I1.kIn, ?_⟩
  have I1' := I1.unwish
  have hl : (us ++ []).length = ps.length := by rw [List.append_nil, ← r.length]; exact F.len _ _ _ _ q
  have bt := hb s1 us I1.kIn hl
  rw [List.append_nil] at bt
  refine wpAny_call (codeAny_mono (F.run X.A X.stack s1 H1 ⟨us, []⟩ us vs _ _ hr I1'.env0 bt r q) fun r' s' hq => ?_)
  cases r' with
  | ok fw =>
    cases fw with
    | ret u =>
      obtain ⟨v, H2, I2, rv, q2⟩ := I1'.after hq
      exact wpAny_execs_nil (wpAny_execs_nil ⟨σ, H2, I2, q2⟩)
    | next => exact False.elim hq
    | brk => exact False.elim hq
    | cont => exact False.elim hq
  | error e' =>
    obtain ⟨ea, C', t', B, H', rfl, os, bare, un, hok, fl, cov, eC, q2⟩ := hq
    cases eC
    have frm : X.A.frames = some (X.env :: X.outer) := by rw [← hst]; exact I.ok.frames
    refine wpAny_looks_onW (base := B) frm hfr (by rw [← hst]; exact fl) fun h4 held up4 => wpAny_landsW held fun h5 fl5 up5 => ?_
    have fl5' : Heap.FlyingW B X.stack ea (.ref C) (.ref t') h5 := by rw [hst]; exact fl5
    obtain ⟨nea, I5⟩ := landed I1' os bare un hok fl cov fl5' (up4.trans up5)
    refine wpAny_handleBy_cons (codeAny_handlers_test (ld_glob (X := X.suite ea) I5.suite hgc ex.m ?_ hdc)) (by intro z; cases z)
    obtain ⟨bm, N', nm, qn, bs, hdct, sn, sub, ab, col, dd, k0, k1, k2, k3, k5, mN, hC, hN', hni, T⟩ := exc_obj I5.kIn ex.q
    obtain ⟨ob, hob, hobc⟩ := fl5.there
    refine wpAny_excMatches_sub_self hC hob hobc (T.hasType PySem.F.excBase_ValueError.hasBase) (codeAny_handlers_suite_as ?_)
    refine lands_againW fl5' fun h6 fl6 up6 => ?_
    obtain ⟨_, I6⟩ := landed I1' os bare un hok fl cov fl6 ((up4.trans up5).trans up6)
    refine store_ok (X := X.suite ea) (v := .ref ea) I6.suite hN hi (.inl hn) rfl (fun s7 I7 => ?_) (.inr hn)
    refine wpAny_mono (hs ea pins s7 _ _ _ I7 (q2 ea nea)) (fun fw s8 q8 => ?_) fun _ _ z => False.elim z
    cases fw with
    | next =>
      obtain ⟨σ8, H8, I8, n8⟩ := q8
      exact name_goes (I8.unsuite I.ok) hN hi hn fun s9 I9 => ⟨_, H8, I9, n8⟩
    | ret v => obtain ⟨_, _, _, _, _, z⟩ := q8; exact False.elim z
    | brk => obtain ⟨_, _, _, z⟩ := q8; exact False.elim z
    | cont => obtain ⟨_, _, _, z⟩ := q8; exact False.elim z
/-! ### isinstance of an exception -/
section
variable {K : PySem.W.Frag} {x C : Addr}
def ExcAt (x C : Addr) (h : Heap) : Prop := ∃ o vs, h.get? x = some o ∧ o.cls = .ref C ∧ o.data = .fields vs
theorem exc_ty {M : Model} {h : Heap} (p : ExcAt x C h) : PySem.W.Looks M h (typeOf (.ref x)) (.ref C) := by
  obtain ⟨o, vs, h1, h2, _⟩ := p
  exact h2 ▸ (PySem.W.Looks.ld h1).andThen .now
end
end L2
namespace L2
open PySem PySem.Spec PyProof.Rows PySem.W Builtin Builtin.ObjectAttr Builtin.Getset_descriptor
section
variable {K : PySem.W.Frag} {x C : Addr}
theorem exc_find {M : Model} {h : Heap} (X : K.In h) (k : ExcK K C) : Looks M h (find (.ref x) (.ref C) "__class__") (.bind (.builtin "getset_descriptor.__get__") (.builtin "object.__class__")) := by
  refine (looks_findIn X k.cl).andThen ?_
  refine Looks.andThen (show Looks M h (getOf (some (.builtin "object.__class__"))) (some (.builtin "getset_descriptor.__get__")) from looks_specialIn X k.gt) ?_
  exact (show Looks M h (dataDescriptor? (some (.builtin "object.__class__")) (some (.builtin "getset_descriptor.__get__"))) (some (.builtin "getset_descriptor.__get__", .builtin "object.__class__")) from (looks_takesIn X k.tk).andThen .now).andThen (Looks.tag .now)
variable {prog : Program} {w : World} {A : Around} {E : Value → Shared → Prop} {s : Shared} {R : Result → Shared → Prop}
theorem exc_cget {tp : Value} (X : K.In s.heap) (p : ExcAt x C s.heap) (k : ExcK K C) (h : R (.ok (.ret (.ref C))) s) :
    codeAny (model prog w) A (.call (.builtin "getset_descriptor.__get__") ⟨[.builtin "object.__class__", .ref x, tp], []⟩) R s := by
  obtain ⟨hh, g, dr, t, os⟩ := s
  have L0 := exc_ty (M := model prog w) p
  have L1 := looks_mroIn (M := model prog w) X k.mo
  refine codeAny_call_builtin KF.slot_gs.plain KF.entry_gs (KF.slot_gs.check _ _ _ _ _ _ _ _ KF.type_class (KF.args_gs _ _ _) ?_)
  unfold Builtin.«getset_descriptor.__get__» Builtin.Getset_descriptor.descrGet
  rw [dga_obj]
  refine wpAny_bind (wpAny_pure ?_)
  unfold descrGetter descrCheckInstance descrNameAndClass isInstance
  simp only [KF.owner_class]
  repeat lk
  refine ⟨Code.quiet_builtin _ (by decide +kernel), codeAny_builtin KF.entry_class ?_⟩
  unfold Builtin.«object.__class__» shownTypeOf
  repeat lk
  exact h
theorem exc_ga {tk : Tok} (X : K.In s.heap) (p : ExcAt x C s.heap) (k : ExcK K C) (h : R (.ok (.ret (.ref C))) s) :
    codeAny (model prog w) A (.call (.builtin "BaseException.__getattribute__") ⟨[.ref x, .str "__class__" tk], []⟩) R s := by
  obtain ⟨hh, g, dr, t, os⟩ := s
  have L0 := exc_ty (M := model prog w) p
  have L1 := looks_mroIn (M := model prog w) X k.mb
  have LI : Looks (model prog w) hh (isInstance (.ref x) (.type "BaseException")) true := L0.andThen L1
  have LF := exc_find (M := model prog w) (x := x) X k
  refine codeAny_call_builtin (by decide +kernel) PySem.F.entry_bexc_ga ?_
  have hk : builtinKind "BaseException.__getattribute__" = some .slot := by decide +kernel
  have hsplit : splitId "BaseException.__getattribute__" = some ("BaseException", "__getattribute__") := by decide +kernel
  have ha := PySem.F.args_bexc_ga (.ref x) (.str "__class__" tk)
  simp only [checkBuiltinCall, hk, hsplit]
  refine wpAny_bind (LI.at ?_)
  rw [if_neg (by decide)]
  have go : wpAny (model prog w) A.in1 («object.__getattribute__» ⟨[.ref x, .str "__class__" tk], []⟩) (fun fin s' => match fin with | .done f => R (.ok f) s' | .again c' => c'.quiet = true ∧ codeAny (model prog w) A c' R s') (fun e s' => R (.error e) s') ⟨hh, g, dr, t, os⟩ := by
    refine wpAny_bind (wpAny_pure (wpAny_bind (wpAny_pure (wpAny_bind (L0.at (wpAny_bind (LF.at ?_)))))))
    show wpAny _ _ (call (.builtin "getset_descriptor.__get__") [.builtin "object.__class__", .ref x, .ref C] >>= ret) _ _ _
    exact wpAny_bind (wpAny_call (exc_cget X p k (wpAny_pure h)))
  cases hsig : Manifest.signature? "BaseException.__getattribute__" with
  | none => exact wpAny_pure go
  | some sig =>
    have ha' : Bind.checkArgs "BaseException.__getattribute__" sig ⟨[.ref x, .str "__class__" tk], []⟩ = pure () := by simpa only [argsOk, hsig] using ha
    simp only [ha']
    exact wpAny_pure go
theorem exc_class {Q : Option Value → Shared → Prop} (X : K.In s.heap) (p : ExcAt x C s.heap) (k : ExcK K C) (h : Q (some (.ref C)) { s with toks := s.toks + 1 }) : wpAny (model prog w) A (getAttr? (.ref x) "__class__") Q E s := by
  obtain ⟨hh, g, dr, t, os⟩ := s
  have L0 := exc_ty (M := model prog w) p
  have L1 := looks_findIn (M := model prog w) X k.ga
  have L2 := looks_findIn (M := model prog w) X k.nga
  have f3 := PySem.F.attrBase_ValueError.ga.bind (.ref x)
  unfold getAttr? getAttrBy? getAttrBy
  refine wpAny_bind (wpAny_mkText (wpAny_bind (wpAny_attempt (wpAny_holding (wpAny_bind (L0.at (wpAny_bind (L1.at ?_))))))))
  show wpAny _ _ (getAttrByItsOwn _ _ _ _ _ _) _ _ _
  unfold getAttrByItsOwn
  refine wpAny_bind (L2.at (wpAny_bind (wpAny_attempt (wpAny_holding ?_))))
  show wpAny _ _ (boundAndCalled _ _ _) _ _ _
  unfold boundAndCalled
  exact wpAny_bind (wpAny_of_eq f3 (wpAny_call (exc_ga (s := ⟨hh, g, dr, t + 1, os⟩) X p k (wpAny_pure (wpAny_pure h)))))
theorem kitx_exc (k : ExcK K C) : KitX K (.ref x) (.ref C) (ExcAt x C) where
  ty := fun _ _ _ p => exc_ty p
  it := fun _ _ X _ => by
    obtain ⟨cdD, hcD, _⟩ := any_some k.dct
    unfold clsIn at hcD
    split at hcD
    · rename_i c' d' cd' sl' ho
      intro A' Q' E' s' kk q
      unfold isType loadHead
      exact wpAny_bind (wpAny_loadPart (kk _ _ (X _ _ ho)) (wpAny_pure q))
    · cases hcD
  ne := fun h tp dd its n sl X htp => by
    obtain ⟨cdD, hcD, _⟩ := any_some k.dct
    refine Bool.eq_false_iff.mpr fun q => ?_
    have e : C = tp := Value.ref.inj (beq_iff_eq.mp q)
    subst e
    unfold clsIn at hcD
    split at hcD
    · rename_i c' d' cd' sl' ho
      have z := (X _ _ ho).symm.trans htp
      cases z
    · cases hcD
  ca := fun X p h => exc_class X p k h
end
section
variable {X : Cx}
theorem exc_at {pins : List (Addr × Obj)} {σ : St} {H : Hp} {s : Shared} {ea C : Addr} (I : Inv X pins σ H s) (h : H ea = some (excO ea C)) : ExcAt ea C s.heap := (I.hok ea _ h).1
abbrev rIsx (K : PySem.W.Frag) (xs : List V) (H : Hp) (Q : VK) : Prop := ∃ (ea C : Addr) (d : V) (c : Value) (b : Bool), xs = [.ref ea, d] ∧ ((∃ D, d = .ref D ∧ c = .ref D) ∨ ∃ T, d = .ty T ∧ c = .type T) ∧ H ea = some (excO ea C) ∧ ExcK K C ∧ kitOne K (.ref C) c = some b ∧ Q (.bl b) H
theorem call_isx : CallR X (.builtin "isinstance") (rIsx X.K) := by
  intro pins s σ H xs us Q I r h
  obtain ⟨ea, C, d, c, b, rfl, hd, he, k, e, q⟩ := h
  obtain ⟨u, v, rfl, ru, rv⟩ := vals2 r
  cases (show u = Value.ref ea from ru)
  have ev : v = c := by
    rcases hd with ⟨D, rfl, rfl⟩ | ⟨T, rfl, rfl⟩
    · exact rv
    · exact rv
  subst ev
  exact kia_one (kitx_exc k) I.kIn (exc_at I he) e (fun z => nomatch z) fun tk => ⟨.bl b, H, I.tok tk, rfl, q⟩
end
theorem passN {P : Program} {w : World} {X : Cx} : Passes (CX1 P w) X (fun _ _ _ => False) := fun _ _ _ _ _ _ _ h => by
  obtain ⟨_, _, _, _, _, _, _, _, _, _, _, _, z⟩ := h
  exact z.elim
end L2

set_option Elab.async false
set_option linter.all false
set_option maxRecDepth 100000
set_option maxHeartbeats 4000000
namespace L2
open PySem PySem.Spec PyProof.Rows PySem.W
/-! ### inner defs: a function object of one's own, its code, its cells -/
def over (H : Hp) (cs : List Addr) (H' : Hp) : Hp := fun b => if b ∈ cs then H b else H' b
section
variable {P : Program} {w : World} {H H' : Hp} {h h' : Heap} {cs : List Addr}
end
section
variable {P : Program} {w : World} {K : PySem.W.Frag} {mg : Str → Option Value} {base : Heap} {A : Around} {outer : List Env} {s : Shared} {H : Hp} {f : Addr} {c : CloT} {cs : List Addr} {fvs vs : List V} {us : List Value} {N : List Str} {k : Nat} {Q : VK} {E : XK}
end
end L2

set_option Elab.async false
set_option linter.all false
set_option maxRecDepth 100000
set_option maxHeartbeats 4000000
namespace Tw
/-! heights, rows that rise, rows that are trees: the plain mathematics -/
/-- a tree's row -/
def Tree (ns : List Int) : Prop := 2 ≤ ns.length ∧ ht ns ns.length = 0 ∧ ∀ k, 0 < k → k < ns.length → 0 < ht ns k
end Tw

set_option Elab.async false
set_option linter.all false
set_option maxRecDepth 100000
set_option maxHeartbeats 4000000
namespace Tw
/-! heaps: sizes, covers: the plain mathematics -/
/-- S is the least of 1, 2, 4, .. that is not less than n -/
def IsSz (n S : Nat) : Prop := ∃ h, S = 2 ^ h ∧ n ≤ S ∧ ∀ j, j < h → 2 ^ j < n
theorem IsSz.uniq {n S S' : Nat} (a : IsSz n S) (b : IsSz n S') : S = S' := by
  obtain ⟨h, rfl, h1, h2⟩ := a
  obtain ⟨k, rfl, k1, k2⟩ := b
  rcases Nat.lt_trichotomy h k with q | q | q
  · have := k2 h q
    omega
  · rw [q]
  · have := h2 k q
    omega
theorem IsSz.pos {n S : Nat} (a : IsSz n S) : 1 ≤ S := by
  obtain ⟨h, rfl, _⟩ := a
  exact Nat.one_le_two_pow
theorem IsSz.le {n S : Nat} (a : IsSz n S) (h : n ≤ 4096) : S ≤ 4096 := by
  obtain ⟨k, rfl, k1, k2⟩ := a
  rcases Nat.lt_or_ge 12 k with q | q
  · have := k2 12 q
    omega
  · exact Nat.le_trans (Nat.pow_le_pow_right (by decide) q) (by decide)
/-- what a node of a cover is: n stands e steps above the places; all counted from S on -/
def NodeOk (S st sp n e : Nat) : Prop := 1 ≤ n ∧ S ≤ n * 2 ^ e ∧ (n + 1) * 2 ^ e ≤ S + sp ∧ (1 < n → S ≤ n / 2 * 2 ^ (e + 1) ∧ (n / 2 + 1) * 2 ^ (e + 1) ≤ 2 * S ∧ (n / 2 * 2 ^ (e + 1) < S + st ∨ S + sp < (n / 2 + 1) * 2 ^ (e + 1)))
/-- the nodes cover from x up to y -/
def Chain (S st sp : Nat) : List Nat → Nat → Nat → Prop
  | [], x, y => x = y
  | n :: r, x, y => ∃ e, n * 2 ^ e = x ∧ NodeOk S st sp n e ∧ Chain S st sp r ((n + 1) * 2 ^ e) y
theorem Chain.append {S st sp : Nat} : ∀ {l m : List Nat} {x y z : Nat}, Chain S st sp l x y → Chain S st sp m y z → Chain S st sp (l ++ m) x z
  | [], m, x, y, z, h, k => by
    cases h
    exact k
  | n :: r, m, x, y, z, h, k => by
    obtain ⟨e, h1, h2, h3⟩ := h
    exact ⟨e, h1, h2, h3.append k⟩
/-- the walk up: e steps done -/
structure Cov (S st sp e low high : Nat) (ls rs : List Nat) : Prop where
  lo1 : S + st ≤ low * 2 ^ e
  lo2 : low * 2 ^ e < S + st + 2 ^ e
  hi1 : high * 2 ^ e ≤ S + sp
  hi2 : S + sp < high * 2 ^ e + 2 ^ e
  le : low ≤ high
  left : Chain S st sp ls (S + st) (low * 2 ^ e)
  right : Chain S st sp rs.reverse (high * 2 ^ e) (S + sp)
end Tw
namespace Tw
/-- what the walk up gives, with so many steps left at most -/
def covW : Nat → Nat → Nat → List Nat → List Nat → List Nat
  | 0, _, _, ls, rs => ls ++ rs.reverse
  | f + 1, low, high, ls, rs => if low < high then covW f ((low + low % 2) / 2) ((high - high % 2) / 2) (if low % 2 = 1 then ls ++ [low] else ls) (if high % 2 = 1 then rs ++ [high - 1] else rs) else ls ++ rs.reverse
/-- the cover -/
def cover (S st sp : Nat) : List Nat := covW (sp - st) (S + st) (S + sp) [] []
end Tw

set_option Elab.async false
set_option linter.all false
set_option maxRecDepth 100000
set_option maxHeartbeats 4000000
namespace PySem
open PyProof.Rows
namespace F
end F
section
variable {prog : Program} {w : World} {A : Around} {E : Value → Shared → Prop} {s : Shared}
end
end PySem
namespace L2
open PySem PySem.Spec PyProof.Rows
section
variable {X : Cx} {tg : Expr}
theorem rngDn (a b : Nat) : Builtin.Range.rangeSize a b (-1) = ((a - b : Nat) : Int) := by
  unfold Builtin.Range.rangeSize
  rw [if_neg (by decide), show (- -1 : Int) = 1 from rfl, Int.ediv_one]
  split <;> omega
theorem rngSmallDn {a b : Nat} (ha : a < 536870912) (hb : b < 536870912) : Builtin.Range.small a b (-1) = true := by
  unfold Builtin.Range.small Builtin.Range.rangeFitsLong
  rw [rngDn]
  have e : (2 : Int) ^ 63 = 9223372036854775808 := by decide
  rw [e, if_neg (by decide)]
  refine dand (dand (dand (dand (dand (decide_eq_true ?_) (decide_eq_true ?_)) (dand (decide_eq_true ?_) (decide_eq_true ?_))) (by decide)) (dand (decide_eq_true ?_) (decide_eq_true ?_))) ?_
  · omega
  · omega
  · omega
  · omega
  · omega
  · omega
  · rw [Bool.or_eq_true]
    exact .inr (dand (decide_eq_true (by omega)) (decide_eq_true (by omega)))
/-- range(a, b, -1) -/
def iRngDn (ta : TA) : TI := fun σ H R => ta σ H fun vs H1 => ∃ a b : Nat, vs = [.int (a : Int), .int (b : Int), .int (-1)] ∧ a < 536870912 ∧ b < 536870912 ∧ R (Its a (-1) (a - b)) H1
theorem pi_rangeDn {a b c : Expr} {ta : TA} {p pos : Pos} (hg : Gl X "range") (hm : X.mg "range" = none) (ha : PA X [a, b, c] ta) (hs : starEach [a, b, c] X.env = [(false, eval a X.env), (false, eval b X.env), (false, eval c X.env)] := by rfl)
    (hs2 : starEach [b, c] X.env = [(false, eval b X.env), (false, eval c X.env)] := by rfl) : PI X tg (.Call (.Name "range" p) [a, b, c] [] pos) (iRngDn ta) := by
  intro pins s σ H R I h
  refine Call_ (ld_blt I hg hm boot_range (PyProof.Rows.callWith_type1 (thn (ha pos pins s σ H _ I h) fun us s1 ⟨vs, H1, I1, r1, q1⟩ => ?_) (by rw [hs, hs2]) (by rw [hs2]; rfl)))
  obtain ⟨x, y, e, l0, l1, q⟩ := q1
  subst e
  cases r1 with
  | cons r rr =>
    cases rr with
    | cons r' rr =>
      cases rr with
      | cons r'' rr =>
        cases rr
        obtain ⟨t, rfl⟩ := r
        obtain ⟨t', rfl⟩ := r'
        obtain ⟨t'', rfl⟩ := r''
        refine call_range_3 (by decide) ?_ (.inl (PyProof.noPylong_small (by decide)))
        refine wpAny_pyIter_range (IsRange.new ..) (rngSmallDn l0 l1) ?_
        have I2 : Inv X pins σ H1 { s1 with heap := s1.heap.push { cls := .type "range", data := .fields #[.int x t, .int y t', .int (-1) t''] }, toks := s1.toks } := I1.kept fun b o e => Heap.get?_push_of_some _ e
        refine ⟨(s1.heap.push { cls := .type "range", data := .fields #[.int x t, .int y t', .int (-1) t''] }).objs.size, [(s1.heap.push { cls := .type "range", data := .fields #[.int x t, .int y t', .int (-1) t''] }).objs.size], _, _, H1, rfl,
          I2.kept (t' := s1.toks) fun b o e => Heap.get?_push_of_some _ e, turn_step _ x (-1) (x - y), ?_, fun b hb => ?_, q⟩
        · have e1 : (x : Int) + ((0 : Nat) : Int) * (-1) = x := by omega
          have e2 : ((x - y : Nat) : Int) - ((0 : Nat) : Int) = Builtin.Range.rangeSize x y (-1) := by rw [rngDn]; omega
          show IsRangeIter _ _ ((x : Int) + ((0 : Nat) : Int) * (-1)) (((x - y : Nat) : Int) - ((0 : Nat) : Int)) (-1)
          rw [e1, e2]
          exact Heap.get?_push_size _ rfl
        · have e : b = (s1.heap.push { cls := .type "range", data := .fields #[.int x t, .int y t', .int (-1) t''] }).objs.size := by simpa using hb
          subst e
          exact I2.fpOk (Nat.le_refl _) (I2.hok.fresh (Nat.le_refl _))
end
end L2

set_option Elab.async false
set_option linter.all false
set_option maxRecDepth 100000
set_option maxHeartbeats 4000000
namespace Tw
open L2
/-! heaps: what the nodes bear -/
def NI (x : V) : Prop := x = .non ∨ ∃ i, x = .int i
def lessV : V → V → V
  | .non, y => y
  | .int a, .int b => .int (if b < a then b else a)
  | x, _ => x
theorem lessV_non (y : V) : lessV .non y = y := by cases y <;> rfl
theorem lessV_ni {x y : V} (hx : NI x) (hy : NI y) : NI (lessV x y) := by
  rcases hx with rfl | ⟨i, rfl⟩
  · rw [lessV_non]
    exact hy
  · rcases hy with rfl | ⟨j, rfl⟩
    · exact .inr ⟨i, rfl⟩
    · exact .inr ⟨_, rfl⟩
def leafV (ns : List Int) (i : Nat) : V := match ns[i]? with | some c => .int c | none => .non
theorem leafV_some {ns : List Int} {i : Nat} {c : Int} (h : ns[i]? = some c) : leafV ns i = .int c := by
  unfold leafV
  rw [h]
theorem leafV_none {ns : List Int} {i : Nat} (h : ns.length ≤ i) : leafV ns i = .non := by
  unfold leafV
  rw [List.getElem?_eq_none h]
/-- the nodes from k on are right -/
structure HInv (ns : List Int) (S k : Nat) (xs : List V) : Prop where
  len : xs.length = 2 * S
  zero : xs[0]? = some .non
  leaf : ∀ i, i < S → xs[S + i]? = some (leafV ns i)
  node : ∀ j, k ≤ j → 1 ≤ j → j < S → ∃ x y, xs[2 * j]? = some x ∧ xs[2 * j + 1]? = some y ∧ xs[j]? = some (lessV x y)
  ni : ∀ x ∈ xs, NI x
theorem HInv.start {ns : List Int} {S : Nat} (h0 : 1 ≤ S) (hl : ns.length ≤ S) : HInv ns S S (List.replicate S V.non ++ ns.map V.int ++ List.replicate (S - ns.length) V.non) := by
  refine ⟨?_, ?_, fun i hi => ?_, fun j h1 h2 h3 => by omega, fun x hx => ?_⟩
  · simp only [List.length_append, List.length_replicate, List.length_map]
    omega
  · rw [List.append_assoc, List.getElem?_append_left (by rw [List.length_replicate]; omega), List.getElem?_replicate, if_pos (by omega)]
  · rw [List.append_assoc, List.getElem?_append_right (by rw [List.length_replicate]; omega), List.length_replicate, Nat.add_sub_cancel_left]
    by_cases h : i < ns.length
    · rw [List.getElem?_append_left (by rw [List.length_map]; exact h), List.getElem?_map, List.getElem?_eq_getElem h, leafV_some (List.getElem?_eq_getElem h)]
      rfl
    · rw [List.getElem?_append_right (by rw [List.length_map]; omega), List.length_map, List.getElem?_replicate, if_pos (by omega), leafV_none (by omega)]
  · rcases List.mem_append.mp hx with hx | hx
    · rcases List.mem_append.mp hx with hx | hx
      · exact .inl (List.eq_of_mem_replicate hx)
      · obtain ⟨i, _, rfl⟩ := List.mem_map.mp hx
        exact .inr ⟨i, rfl⟩
    · exact .inl (List.eq_of_mem_replicate hx)
theorem HInv.step {ns : List Int} {S k : Nat} {xs : List V} {x y : V} (h : HInv ns S (k + 1) xs) (h1 : 1 ≤ k) (hk : k < S) (hx : xs[2 * k]? = some x) (hy : xs[2 * k + 1]? = some y) : HInv ns S k (xs.set k (lessV x y)) := by
  have hl := h.len
  have oth : ∀ j, j ≠ k → (xs.set k (lessV x y))[j]? = xs[j]? := fun j hj => List.getElem?_set_ne (Ne.symm hj)
  refine ⟨by rw [List.length_set]; exact hl, ?_, fun i hi => ?_, fun j a b c => ?_, fun z hz => ?_⟩
  · rw [oth 0 (by omega)]
    exact h.zero
  · rw [oth (S + i) (by omega)]
    exact h.leaf i hi
  · by_cases e : j = k
    · subst e
      refine ⟨x, y, ?_, ?_, ?_⟩
      · rw [oth (2 * j) (by omega)]
        exact hx
      · rw [oth (2 * j + 1) (by omega)]
        exact hy
      · exact List.getElem?_set_self (by omega)
    · obtain ⟨u, v, e1, e2, e3⟩ := h.node j (by omega) b c
      refine ⟨u, v, ?_, ?_, ?_⟩
      · rw [oth (2 * j) (by omega)]
        exact e1
      · rw [oth (2 * j + 1) (by omega)]
        exact e2
      · rw [oth j e]
        exact e3
  · rcases List.mem_or_eq_of_mem_set hz with hz | rfl
    · exact h.ni z hz
    · exact lessV_ni (h.ni x (List.mem_of_getElem? hx)) (h.ni y (List.mem_of_getElem? hy))
theorem atI_V {xs : List V} {j : Nat} {x : V} (h : xs[j]? = some x) : atI xs (j : Int) = some x := atI_nat h
end Tw

set_option Elab.async false
set_option linter.all false
set_option maxRecDepth 100000
set_option maxHeartbeats 4000000
namespace Tw
/-! the tables of brackets: ones ahead, least heights of blocks -/
def ahd (ns : List Int) (n : Nat) : List Int := (List.range (n + 1)).map fun k => (ns.take (32 * k)).sum
theorem ahd_length (ns : List Int) (n : Nat) : (ahd ns n).length = n + 1 := by simp [ahd]
theorem ahd_get {ns : List Int} {n k : Nat} (h : k ≤ n) : (ahd ns n)[k]? = some (ns.take (32 * k)).sum := by
  have : k < n + 1 := by omega
  simp [ahd, this]
/-- the ones of the first k blocks -/
def onesTo (bs : List Int) (k : Nat) : Int := ((bs.take k).map fun b => ones b 32).sum
theorem onesTo_succ {bs : List Int} {k : Nat} {b : Int} (h : bs[k]? = some b) : onesTo bs (k + 1) = onesTo bs k + ones b 32 := by
  unfold onesTo
  rw [List.take_add_one, h]
  simp [List.sum_append]
def aheads (bs : List Int) (n : Nat) : List Int := (List.range (n + 1)).map (onesTo bs)
theorem aheads_length (bs : List Int) (n : Nat) : (aheads bs n).length = n + 1 := by simp [aheads]
theorem aheads_succ (bs : List Int) (n : Nat) : aheads bs (n + 1) = aheads bs n ++ [onesTo bs (n + 1)] := by
  unfold aheads
  rw [List.range_succ, List.map_append]
  rfl
theorem aheads_last (bs : List Int) (n : Nat) : aheads bs n = (List.range n).map (onesTo bs) ++ [onesTo bs n] := by
  unfold aheads
  rw [List.range_succ, List.map_append]
  rfl
theorem onesTo_packs {ns : List Int} (h : IsBits ns) : ∀ k : Nat, k ≤ many ns.length → onesTo (packs ns) k = (ns.take (32 * k)).sum
  | 0, _ => by simp [onesTo]
  | k + 1, hk => by
    rw [onesTo_succ (packs_get (by omega)), onesTo_packs h k (by omega), sum_block h k 32 (by omega)]
    rfl
theorem aheads_packs {ns : List Int} (h : IsBits ns) : aheads (packs ns) (packs ns).length = ahd ns (many ns.length) := by
  rw [packs_length]
  unfold aheads ahd
  refine List.map_congr_left fun k hk => ?_
  have := List.mem_range.mp hk
  exact onesTo_packs h k (by omega)
/-- how many bits block j has -/
def wide (n j : Nat) : Nat := min 32 (n - 32 * j)
/-- the least height of block j -/
def LowAt (ns : List Int) (j : Nat) (m : Int) : Prop := (∃ k, 32 * j < k ∧ k ≤ 32 * j + 32 ∧ k ≤ ns.length ∧ m = ht ns k) ∧ ∀ k, 32 * j < k → k ≤ 32 * j + 32 → k ≤ ns.length → m ≤ ht ns k
theorem LowAt.of {ns : List Int} (h : IsBits ns) {j : Nat} {M : Int} (hM : M ∈ nets (blkAt ns j) (wide ns.length j)) (hle : ∀ a ∈ nets (blkAt ns j) (wide ns.length j), M ≤ a) : LowAt ns j (ht ns (32 * j) + M) := by
  unfold wide at *
  constructor
  · obtain ⟨k, k1, k2, rfl⟩ := mem_nets.mp hM
    refine ⟨32 * j + k, by omega, by omega, by omega, ?_⟩
    rw [ht_block h j k (by omega)]
  · intro k k1 k2 k3
    have := hle _ (mem_nets.mpr ⟨k - 32 * j, by omega, by omega, rfl⟩)
    have e := ht_block h j (k - 32 * j) (by omega)
    rw [show 32 * j + (k - 32 * j) = k from by omega] at e
    omega
theorem LowAt.uniq {ns : List Int} {j : Nat} {m m' : Int} (h : LowAt ns j m) (h' : LowAt ns j m') : m = m' := by
  obtain ⟨⟨k, a1, a2, a3, rfl⟩, h2⟩ := h
  obtain ⟨⟨k', b1, b2, b3, rfl⟩, h3⟩ := h'
  have := h2 k' b1 b2 b3
  have := h3 k a1 a2 a3
  omega
structure Lows (ns ls : List Int) : Prop where
  len : ls.length = many ns.length
  low : ∀ j m, ls[j]? = some m → LowAt ns j m
theorem Lows.uniq {ns ls ms : List Int} (h : Lows ns ls) (h' : Lows ns ms) : ls = ms := by
  refine List.ext_getElem? fun j => ?_
  by_cases hj : j < many ns.length
  · have j1 : j < ls.length := by have := h.len; omega
    have j2 : j < ms.length := by have := h'.len; omega
    have e1 : ls[j]? = some ls[j] := List.getElem?_eq_getElem j1
    have e2 : ms[j]? = some ms[j] := List.getElem?_eq_getElem j2
    rw [e1, e2, (h.low _ _ e1).uniq (h'.low _ _ e2)]
  · rw [List.getElem?_eq_none (by have := h.len; omega), List.getElem?_eq_none (by have := h'.len; omega)]
end Tw

set_option Elab.async false
set_option linter.all false
set_option maxRecDepth 100000
set_option maxHeartbeats 4000000
namespace L2
open PySem PySem.Spec PyProof.Rows
structure CompOk2 (X : Cx) (x z : Str) (caps : List (Str × Nat)) (scope : Scope) (cl : List (Str × Addr)) : Prop where
  o : CompOk X x caps scope cl
  hz : scope.names.lookup z = some .local
  nd : (x :: z :: caps.map (·.1)).Nodup
section
variable {X : Cx} {pins : List (Addr × Obj)} {σ : St} {H : Hp} {s : Shared}
/-- the state at the block's entry: the list to be filled stands at D, the block's names at C -/
theorem Inv.comp2 {x z : Str} {caps : List (Str × Nat)} {scope : Scope} {cl : List (Str × Addr)} {fp : List Addr} {h' : Heap} {tk : Nat} {m : Str → Option Value} {D C : Addr} (I : Inv X pins σ H s) (K0 : CompOk2 X x z caps scope cl) (hf : ∀ b ∈ fp, FpOk X pins H b)
    (hfs : ∀ b ∈ fp, b < s.heap.objs.size) (hD : s.heap.objs.size ≤ D) (hC : s.heap.objs.size ≤ C) (hDC : D ≠ C) (hk : ∀ b o, s.heap.get? b = some o → h'.get? b = some o) (hn : h'.Ns C m) (hL : h'.get? D = some { cls := .type "list", data := .seq #[] }) :
    Inv (cxComp X (x :: z :: caps.map (·.1)) scope cl C s H fp) [] (none :: none :: capV caps σ) (upd H D (.lst [])) { s with heap := h', toks := tk } := by
  have hnD := I.hok.fresh hD
  have hnC := I.hok.fresh hC
  have lkc : ∀ y c, (cxComp X (x :: z :: caps.map (·.1)) scope cl C s H fp).env.cells.lookup y = some c → X.env.cells.lookup y = some c := fun y c e => K0.o.cls y c e
  have clt : ∀ y c, X.env.cells.lookup y = some c → c < s.heap.objs.size := fun y c e => by
    obtain ⟨v, q⟩ := I.cell y c e
    exact q.lt
  have up : ∀ b u, H b = some u → upd H D (.lst []) b = some u := fun b u q => by rw [upd_ne (ne_of_none q hnD)]; exact q
  have ok : (cxComp X (x :: z :: caps.map (·.1)) scope cl C s H fp).Ok := by
    refine ⟨I.ok.mod, K0.o.kind, I.ok.glob, I.ok.blt, hC, fun y z c h1 h2 => I.ok.inj y z c (lkc y c h1) (lkc z c h2), fun y hy => K0.o.has y hy, fun y c h => absurd (show false = true from h) Bool.false_ne_true, I.ok.hd, I.ok.frames, .inl rfl, fun b hb => ?_, I.bs, Nat.le_trans I.ok.bsz I.sz, fun b o e hb => ?_, fun b hb hz => ?_, I.stack, I.stkFree⟩
    · obtain ⟨f0, f1, f2, f3, f4, f5⟩ := hf b hb
      exact ⟨Nat.ne_of_lt (Nat.lt_of_lt_of_le (hfs b hb) hC), fun y c e => f4 y c (lkc y c e)⟩
    · obtain ⟨f0, f1, f2, f3, f4, f5⟩ := hf b hb
      rcases f3 with z | z
      · exact I.ok.noex b o e z
      · exact absurd (Nat.lt_of_lt_of_le (Nat.lt_of_lt_of_le (Heap.lt_size e) I.ok.bsz) z) (Nat.lt_irrefl _)
    · obtain ⟨f0, f1, f2, f3, f4, f5⟩ := hf b hb
      rcases List.mem_cons.mp (I.stkSub b hz) with z | z
      · exact f1 z
      · exact f2 z
  refine ⟨ok, rfl, I.bare, ?_, ⟨m, hn, fun i y v e1 e2 e3 => ?_⟩, fun y c e => ?_, ?_, fun y c e => ?_, fun p hp => absurd (show p ∈ ([] : List (Addr × Obj)) from hp) (by simp), ?_, ?_⟩
  · exact Un.laid hk hD hnD
  · cases i with
    | zero => cases e2
    | succ i =>
     cases i with
     | zero => cases e2
     | succ i =>
      have e1' : (caps.map (·.1))[i]? = some y := e1
      have e2' : (capV caps σ)[i]? = some (some v) := e2
      rw [List.getElem?_map] at e1'
      unfold capV at e2'
      rw [List.getElem?_map] at e2'
      cases ec : caps[i]? with
      | none => rw [ec] at e1'; cases e1'
      | some p =>
        rw [ec] at e1' e2'
        obtain ⟨y', j⟩ := p
        have ey : y' = y := Option.some.inj e1'
        subst ey
        have ev : (σ[j]?).getD none = some v := Option.some.inj e2'
        have ev' : σ[j]? = some (some v) := by
          cases q : σ[j]? with
          | none => rw [q] at ev; cases ev
          | some w => rw [q] at ev; exact congrArg some ev
        obtain ⟨c1, c2, c3⟩ := K0.o.cap y' j (List.mem_of_getElem? ec)
        obtain ⟨m0, hn0, hl⟩ := I.loc
        obtain ⟨u, r, l⟩ := hl j y' v c1 ev' (by rcases c2 with z | z; exact .inr (.inl z); exact .inr (.inr z))
        refine ⟨u, r, .inr ⟨c3, ?_⟩⟩
        rcases l with ⟨k, _⟩ | ⟨k, c, ec, z⟩
        · have k' : X.env.scope.names.lookup y' = some .local := k
          rcases c2 with z | z
          · rw [z] at k'; cases k'
          · rw [z] at k'; cases k'
        · obtain ⟨c', hc'⟩ := K0.o.has y' c3
          have e4 := K0.o.cls y' c' hc'
          rw [ec] at e4
          cases e4
          obtain ⟨o, ho, hd⟩ := z
          exact ⟨c, hc', o, hk _ _ ho, hd⟩
  · obtain ⟨v, o, ho, hd⟩ := I.cell y c (lkc y c e)
    exact ⟨v, o, hk _ _ ho, hd⟩
  · show upd H D (.lst []) C = none
    rw [upd_ne (Ne.symm hDC)]
    exact hnC
  · have hlt := clt y c (lkc y c e)
    rw [upd_ne (Nat.ne_of_lt (Nat.lt_of_lt_of_le hlt hD))]
    exact I.freeC y c (lkc y c e)
  · exact I.hok.laid hk hD ⟨Nat.zero_le _, [], _, .nil, hL⟩
  · show (none :: none :: capV caps σ).length = (x :: z :: caps.map (·.1)).length
    simp [capV_length]
/-- the reading of a comprehension with two names -/
def rdComp2 (K : PySem.W.Frag) (J : It) (cap : St) (te : TE) (Qf : Addr → Hp → Prop) (H : Hp) : Prop :=
  ∀ D, H D = none → ∃ W : Nat → Nat → List V → Hp → Prop, (∃ m, W 0 m [] (upd H D (.lst []))) ∧ ∀ i m ys H1, W i m ys H1 →
    (J.stop i H1 ∧ Qf D H1) ∨ (J.go i H1 ∧ ∀ v H2, J.yld i H1 v H2 → ∃ ta v1 v2, v = .ref ta ∧ SqT K H2 ta [v1, v2] ∧
      te (some v1 :: some v2 :: cap) H2 fun y H4 => H4 D = some (.lst ys) ∧ ys.length < sizeLine ∧ ∃ m', m' < m ∧ W (i + 1) m' (ys ++ [y]) (upd H4 D (.lst (ys ++ [y]))))
theorem comp_core2 {x z : Str} {px pz tp pos : Pos} {tx : Nat} {caps : List (Str × Nat)} {scope : Scope} {cl : List (Str × Addr)} {elt iter : Expr} {J : It} {fp : List Addr} {it : Addr} {tn : Nat → Heap → Prop} {te : TE} {Qf : Addr → Hp → Prop}
    {RR : Value → Addr → Result → Shared → Prop} {E : Value → Shared → Prop} (I : Inv X pins σ H s) (hc : X.calm = true) (K0 : CompOk2 X x z caps scope cl) (T : Turn X.prog X.w X.K (.Tuple [.Name x px, .Name z pz] tx tp) J fp it tn) (st : tn 0 s.heap) (hf : ∀ b ∈ fp, FpOk X pins H b)
    (he : ∀ C s1 H1 fp1, PE (cxComp X (x :: z :: caps.map (·.1)) scope cl C s1 H1 fp1) elt te) (rd : rdComp2 X.K J (capV caps σ) te Qf H)
    (hRR : ∀ D C s' H' m, Inv X pins σ H' s' → s'.heap.Ns C m → FpOk X pins H' C → Qf D H' → RR (.ref D) C (.ok .next) s') :
    wpAny (model X.prog X.w) X.A (newList []) (fun acc s3 => wpAny (model X.prog X.w) X.A (newFunctionEnv scope X.env.globals cl [] X.env.qual none .none (some X.env)) (fun cenv s4 =>
      codeAny (model X.prog X.w) X.A (.compStart (.ListComp elt [⟨.Tuple [.Name x px, .Name z pz] tx tp, iter, [], 0⟩] scope pos) 0 (.ref it) acc { cenv with scope := relabel scope X.env }) (RR acc cenv.locals) s4) E s3) E s := by
  have hfs : ∀ b ∈ fp, b < s.heap.objs.size := fun b hb => by
    obtain ⟨o, e, _⟩ := T.obj _ _ st b hb
    exact Heap.lt_size e
  refine wpAny_newObj_type (wpAny_newFunctionEnv K0.o.nocell (by intro y hy; simp at hy) (fun h1 hn1 hb1 => ?_) K0.o.kind)
  dsimp only at hn1 hb1 ⊢
  obtain ⟨D, eD⟩ : ∃ D : Nat, D = s.heap.objs.size := ⟨_, rfl⟩
  obtain ⟨H2, eH2⟩ : ∃ g, g = s.heap.push { cls := .type "list", dict := none, data := .seq ([] : List Value).toArray } := ⟨_, rfl⟩
  rw [← eH2] at hn1 hb1 ⊢
  rw [← eD]
  have hC : H2.objs.size = D + 1 := by rw [eH2, Heap.size_push, eD]
  have hle : s.heap.objs.size ≤ H2.objs.size := by rw [hC, eD]; exact Nat.le_succ _
  have hDC : D ≠ H2.objs.size := by rw [hC]; exact Nat.ne_of_lt (Nat.lt_succ_self _)
  have hk : ∀ b o, s.heap.get? b = some o → h1.get? b = some o := fun b o e => by
    refine hb1.extBut b o (Nat.ne_of_lt (Nat.lt_of_lt_of_le (Heap.lt_size e) hle)) (Heap.get?_push_of_some _ ?_)
    rw [eH2]
    exact Heap.get?_push_of_some _ e
  have hL : h1.get? D = some { cls := .type "list", data := .seq #[] } := by
    refine hb1.extBut D _ (by omega) (Heap.get?_push_of_some _ ?_)
    rw [eH2, eD]
    exact Heap.get?_push_size _ rfl
  have st1 : tn 0 h1 := T.keep _ _ _ st fun b _ o e => hk b o e
  obtain ⟨W, ⟨m0, w0⟩, turn⟩ := rd D (I.hok.fresh (by omega))
  have loop : codeAny (model X.prog X.w) X.A (.compLoop (.ListComp elt [⟨.Tuple [.Name x px, .Name z pz] tx tp, iter, [], 0⟩] scope pos) 0 (.ref it) (.ref D) (compEnvC scope cl H2.objs.size X.env)) (RR (.ref D) H2.objs.size) { s with heap := h1, toks := s.toks + ([] : List (Str × Value)).length } := by
    refine LCp.codeAny_compLoop_pair (fun n s' => ∃ i ys sl sm H', Inv (cxComp X (x :: z :: caps.map (·.1)) scope cl H2.objs.size s H fp) [] (sl :: sm :: capV caps σ) H' s' ∧ tn i s'.heap ∧ (∀ b ∈ fp, H' b = none) ∧ W i n ys H') ?_ m0
      ⟨0, [], none, none, _, I.comp2 K0 hf hfs (by omega) (by omega) hDC hk hn1 hL, st1, fun b hb => ?_, w0⟩
    · rintro n s3 ⟨i, ys, sl, sm, H3, I3, st3, fr3, w3⟩
      have fpc : ∀ {H' : Hp} {pi : List (Addr × Obj)}, (∀ b ∈ fp, H' b = none) → (∀ p ∈ pi, p.1 ∉ fp) → ∀ b ∈ fp, FpOk (cxComp X (x :: z :: caps.map (·.1)) scope cl H2.objs.size s H fp) pi H' b := fun {H' pi} hn hp b hb => by
        obtain ⟨f0, f1, f2, f3, f4, f5⟩ := hf b hb
        refine ⟨hn b hb, ?_, fun z => ?_, .inl hb, fun y c e => f4 y c (K0.o.cls y c e), fun p hpp z => ?_⟩
        · exact Nat.ne_of_lt (Nat.lt_of_lt_of_le (hfs b hb) hle)
        · rcases List.mem_cons.mp (I.stkSub b z) with q | q
          · exact f1 q
          · exact f2 q
        · exact hp p (by simpa [cxComp] using hpp) (by rw [z]; exact hb)
      have clear : ∀ {α : Type} {t : Sem α} {Q : α → Shared → Prop} {E' : Value → Shared → Prop} {s : Shared}, wpAny (model X.prog X.w) X.A t Q (fun _ _ => False) s → wpAny (model X.prog X.w) X.A t Q E' s := fun h => wpAny_mono h (fun _ _ z => z) fun _ _ z => z.elim
      rcases turn i n ys H3 w3 with ⟨stop, qf⟩ | ⟨go, step⟩
      · refine thn (T.done (cxComp X (x :: z :: caps.map (·.1)) scope cl H2.objs.size s H fp) rfl rfl rfl hc i [] s3 _ H3 _ I3 (fpc fr3 (by simp)) st3 stop) fun r s4 ⟨hr, I4⟩ => ?_
        subst hr
        obtain ⟨m4, hn4, _⟩ := id I4.loc
        refine hRR D _ s4 H3 m4 (I.comped hf I4) hn4 ?_ qf
        have gC : s.heap.objs.size ≤ H2.objs.size := by omega
        exact I.fpOk gC I4.free
      · refine clear (thn (T.item (cxComp X (x :: z :: caps.map (·.1)) scope cl H2.objs.size s H fp) rfl rfl rfl hc i [] s3 _ H3 (fun _ _ => False) I3 (fpc fr3 (by simp)) st3 go) fun r s4 ⟨u, hr, h4⟩ => ?_)
        subst hr
        refine clear (thn h4 fun _ s5 ⟨v, H5, I5, r5, y5, st5, fr5⟩ => ?_)
        have I5' := I5.pinned (fpc fr5 (by simp)) (T.obj _ _ st5)
        obtain ⟨ta, v1, v2, ev, ht5, q6⟩ := step v _ y5
        subst ev
        have hg : PG (cxComp X (x :: z :: caps.map (·.1)) scope cl H2.objs.size s H fp) (.Tuple [.Name x px, .Name z pz] tx tp) (gTup X.K 2 (gCons (gName 0) (gCons (gName 1) gNil))) :=
          pg_tup hc (pgs_cons (pg_name (i := 0) K0.nd rfl (Or.inl (lookup_relabel_local K0.o.hx)) (Or.inr (lookup_relabel_local K0.o.hx))) (pgs_cons (pg_name (i := 1) K0.nd rfl (Or.inl (lookup_relabel_local K0.hz)) (Or.inr (lookup_relabel_local K0.hz))) pgs_nil))
        refine clear (thn (hg _ s5 (sl :: sm :: capV caps σ) H5 (.ref ta) u (fun σ2 H2 => σ2 = some v1 :: some v2 :: capV caps σ ∧ H2 = H5) I5' r5 ⟨ta, [v1, v2], rfl, ht5, rfl, v1, [v2], rfl, v2, [], rfl, rfl, (show _ ∧ _ from ⟨rfl, rfl⟩)⟩) fun _ s6 ⟨σ6, H6, I6, e6, e7⟩ => ?_)
        subst e6 e7
        have again : ∀ {H7 : Hp} {s7 : Shared} {sl sm : Option V} {zs : List V} {m' : Nat}, Inv (cxComp X (x :: z :: caps.map (·.1)) scope cl H2.objs.size s H fp) ([] ++ pinsAt fp s5.heap) (sl :: sm :: capV caps σ) H7 s7 → m' < n → W (i + 1) m' zs H7 →
            ∃ m, m < n ∧ ∃ i ys sl sm H', Inv (cxComp X (x :: z :: caps.map (·.1)) scope cl H2.objs.size s H fp) [] (sl :: sm :: capV caps σ) H' s7 ∧ tn i s7.heap ∧ (∀ b ∈ fp, H' b = none) ∧ W i m ys H' := fun {H7 s7 sl sm zs m'} I7 hm w7 => by
          refine ⟨m', hm, i + 1, zs, sl, sm, H7, I7.unpinned, T.keep _ _ _ st5 fun b hb o e => (I7.pin (b, o) (List.mem_append_right _ (List.mem_append_right _ (mem_pinsAt hb e)))).1, fun b hb => ?_, w7⟩
          obtain ⟨o, e, d⟩ := T.obj _ _ st5 b hb
          exact (I7.pin (b, o) (List.mem_append_right _ (List.mem_append_right _ (mem_pinsAt hb e)))).2.1
        refine clear (thn (he H2.objs.size s H fp _ s6 _ H6 _ I6 q6) fun xv s8 ⟨y, H8, I8, r8, hD8, hz8, m', hm, w8⟩ => ?_)
        refine clear (thn (mt_append _ s8 _ H8 (.ref D) [y] (.ref D) [xv] (fun _ H9 => H9 = upd H8 D (.lst (ys ++ [y]))) I8 rfl (.cons r8 .nil) ⟨D, ys, y, rfl, rfl, hD8, hz8, rfl⟩) fun _ s9 ⟨_, H9, I9, _, e9⟩ => ?_)
        subst e9
        exact again I9 hm w8
    · rw [upd_ne (by rw [eD]; exact Nat.ne_of_lt (hfs b hb))]
      exact (hf b hb).1
  exact codeAny_compStart_list loop (T.self _ 0 _ _ _ st1 loop)


def tComp2 (K : PySem.W.Frag) (wi : TI) (caps : List (Str × Nat)) (te : TE) : TE := fun σ H Q => wi σ H fun J H1 => rdComp2 K J (capV caps σ) te (fun D H' => Q (.ref D) H') H1
/-- name = a comprehension, on one line: the name is stored ahead of the letting go -/
theorem ps_setComp2 {i : Nat} {y x z : Str} {px pz tp py pos spos : Pos} {tx : Nat} {caps : List (Str × Nat)} {scope : Scope} {cl : List (Str × Addr)} {elt iter : Expr} {wi : TI} {te : TE} (hN : X.N.Nodup) (hiN : X.N[i]? = some y) (hy : X.env.scope.names.lookup y = some .local) (hc : X.calm = true)
    (K0 : CompOk2 X x z caps scope cl) (hi : PI X (.Tuple [.Name x px, .Name z pz] tx tp) iter wi)
    (he : ∀ C s1 H1 fp1, PE (cxComp X (x :: z :: caps.map (·.1)) scope cl C s1 H1 fp1) elt te)
    (hsw : swapsWith (.ListComp elt [⟨.Tuple [.Name x px, .Name z pz] tx tp, iter, [], 0⟩] scope pos) (some (.Name y py)) spos.line X.env = pure true := by rfl) (hs : ∀ x, foldedSetIterable iter X.env x = pure x := by intro _; rfl) :
    PS X (.Assign [.Name y py] (.ListComp elt [⟨.Tuple [.Name x px, .Name z pz] tx tp, iter, [], 0⟩] scope pos) spos) (tAsg (tComp2 X.K wi caps te) (gName i)) := by
  intro pins s σ H D0 I h
  rw [exec_Assign_Name_used _ _ _ _ hsw]
  refine wpAny_bind (wpAny_standAt (wpAny_bind ?_))
  show wpAny _ X.A (do let _ ← comprehension (.ListComp elt [⟨.Tuple [.Name x px, .Name z pz] tx tp, iter, [], 0⟩] scope pos) scope X.env _ (newList []) false (eval iter X.env) (some (assign (.Name y py) X.env))) _ _ s
  refine wpAny_bind (wpAny_mono (wpAny_comprehension_free (use := some (assign (.Name y py) X.env)) (Q := fun _ s' => SP X pins D0 .next s') rfl hs K0.o.clos K0.o.kind K0.o.names
    (thn (hi pins s σ H _ I h) fun v s1 h1 => thn h1 fun itv s2 h2 => ?_)) (fun _ s' hq => wpAny_pure (wpAny_pure hq)) fun _ _ e => e)
  obtain ⟨it, fp, tn, J, H2, e, I2, T, st2, f2, rd⟩ := h2
  subst e
  refine comp_core2 (RR := fun acc C => compPost (model X.prog X.w) X.A X.xe (some (assign (.Name y py) X.env)) (fun _ s' => SP X pins D0 .next s') acc C) I2 hc K0 T st2 f2 he rd ?_
  intro D C s' H' m I' hn fC q
  show wpAny _ X.A (assign (.Name y py) X.env (.ref D)) _ _ _
  refine wpAny_assign_Name (store_ok2 (v := .ref D) I' hN hiN (.inl hy) rfl (fun s'' I'' ch => ⟨m, ?_, fun h'' hs'' => ?_⟩) (.inr hy))
  · obtain ⟨a, sb, ha⟩ := ch
    refine hn.sameBut sb fun z => ?_
    rcases ha with ha | ha
    · exact fC.2.1 (z.trans ha)
    · exact fC.2.2.2.2.1 _ a ha z.symm
  · exact ⟨_, H', I''.turned (h' := h'') (t' := s''.toks) (fun b o hb e => hs''.extBut b o hb e) fC.1 fC.2.1 fC.2.2.2.1 fC.2.2.2.2.1 fC.2.2.2.2.2, q⟩
end
section
variable {X : Cx} {x : Str} {scope : Scope}
end
end L2
namespace Tw
open PySem L2
/-- over enumerate of a list of ints: the items are told by a relation -/
theorem comp_enumS {K : PySem.W.Frag} {a : Addr} {ns : List Int} {cap : L2.St} {te : TE} {Qf : Addr → Hp → Prop} {H : Hp} (R : Nat → Int → Prop) (hS : SqL K H a (ns.map V.int)) (hl : ns.length < sizeLine)
    (hte : ∀ (i : Nat) (b : Int) (H' : Hp) (Q : VK), ns[i]? = some b → Same H H' → (∀ m H2, R i m → Same H' H2 → Q (.int m) H2) → te (some (.int (i : Int)) :: some (.int b) :: cap) H' Q)
    (q : ∀ D H' (ls : List Int), H D = none → Same H H' → H' D = some (.lst (ls.map V.int)) → ls.length = ns.length → (∀ i m, ls[i]? = some m → R i m) → Qf D H') : rdComp2 K (Ite K a) cap te Qf H := by
  intro D hD
  refine ⟨fun i m ys H1 => m = ns.length - i ∧ i ≤ ns.length ∧ Same H H1 ∧ H1 D = some (.lst ys) ∧ ∃ ls : List Int, ys = ls.map V.int ∧ ls.length = i ∧ ∀ i m, ls[i]? = some m → R i m, ⟨_, rfl, Nat.zero_le _, same_new hD _, upd_same, [], rfl, rfl, fun i m e => by cases e⟩, ?_⟩
  rintro i m ys H1 ⟨rfl, hi, sm, hD1, ls, rfl, hll, hR⟩
  have hS1 := sm.seq hS
  by_cases hlt : i < ns.length
  · have hb : ns[i]? = some ns[i] := List.getElem?_eq_getElem hlt
    have hg : (ns.map V.int)[i]? = some (.int ns[i]) := by
      rw [List.getElem?_map, hb]
      rfl
    refine .inr ⟨⟨_, _, hS1, hg⟩, fun v H2 y => ?_⟩
    obtain ⟨p, y, hp, rfl, rfl, e⟩ := y
    have e := e _ hS1
    rw [hg] at e
    cases e
    have s2 := same_new hp (.tup [.int (i : Int), .int ns[i]])
    refine ⟨p, _, _, rfl, SqT.of upd_same, ?_⟩
    refine hte i ns[i] _ _ hb (sm.trans s2) fun m H2 hm s3 => ⟨s3 _ _ (s2 _ _ hD1), ?_, ns.length - (i + 1), by omega, rfl, hlt, ?_, upd_same, ls ++ [m], ?_, ?_, ?_⟩
    · rw [List.length_map]
      omega
    · exact same_set (sm.trans (s2.trans s3)) hD _
    · rw [List.map_append]
      rfl
    · rw [List.length_append, hll]
      rfl
    · intro j n e
      rcases Nat.lt_or_ge j ls.length with c | c
      · rw [List.getElem?_append_left c] at e
        exact hR j n e
      · rw [List.getElem?_append_right c] at e
        have : j - ls.length = 0 := by
          have := (List.getElem?_eq_some_iff.mp e).1
          simp at this
          omega
        rw [this] at e
        cases e
        have : j = i := by omega
        subst this
        exact hm
  · have e : i = ns.length := by omega
    exact .inl ⟨⟨_, hS1, by rw [List.length_map, e]; exact Nat.le_refl _⟩, q D H1 ls hD sm hD1 (by omega) hR⟩
end Tw

set_option Elab.async false
set_option linter.all false
set_option maxRecDepth 100000
set_option maxHeartbeats 4000000
namespace L2
open PySem PySem.Spec PyProof.Rows
/-! ### zip(xs, ys) of two lists, two names in the target -/
section
variable {X : Cx} {pins : List (Addr × Obj)} {σ : St} {H : Hp} {s : Shared} {h' : Heap}
theorem Inv.turnN {ch : List Addr} {p : Addr} {o : HO} {t' : Nat} (I : Inv X pins σ H s) (hf : ∀ b ∈ ch, FpOk X pins H b)
    (k : ∀ b u, b ∉ ch → s.heap.get? b = some u → h'.get? b = some u) (hp : s.heap.objs.size ≤ p)
    (new : ObjOk X.prog X.w (upd H p o) h' p o) : Inv X pins σ (upd H p o) { s with heap := h', toks := t' } := by
  have hn := I.hok.fresh hp
  have ne : ∀ b u, H b = some u → b ∉ ch := fun b u q z => by rw [(hf b z).1] at q; cases q
  have up : ∀ b u, H b = some u → upd H p o b = some u := fun b u q => by rw [upd_ne (ne_of_none q hn)]; exact q
  refine I.step (g' := s.gens) (d' := s.drawn) (ch := ch) (fun b hb => ?_) (fun b u _ _ hx q _ => k b u hx q) (fun b u _ _ hx q _ => ⟨u.slots, k b u hx q⟩)
    (fun b u _ q n => by rw [upd_ne (Nat.ne_of_lt (Nat.lt_of_lt_of_le (Heap.lt_size q) hp))]; exact n) (fun b u hx q => ⟨u, k b u hx q⟩)
    (fun b xs q => up _ _ q) (fun b ob u q => up _ _ q) (fun b ps q => ⟨#[], by rw [up _ _ q]; simp⟩) (fun m hm => ?_) (fun b u q => ?_) I.bare
  · have fe := hf b hb
    exact ⟨fe.2.2.2.1, fe.2.1, fe.2.2.2.2.1, fe.2.2.2.2.2⟩
  · obtain ⟨ob, es, ep, ho, r⟩ := hm
    exact ⟨ob, es, ep, k _ ob (fun z => (hf _ z).2.1 rfl) ho, r⟩
  · by_cases hb : b = p
    · subst hb
      rw [upd_same] at q
      cases q
      exact new
    · rw [upd_ne hb] at q
      refine (I.hok b u q).stay (fun c v hc r => k c v ?_ r) (fun c r => up _ _ r) fun c xs r => up _ _ r
      rcases hc with rfl | z
      · exact ne _ _ q
      · exact ne _ _ z
theorem Inv.turnedN {ch : List Addr} {t' : Nat} (I : Inv X pins σ H s) (hf : ∀ b ∈ ch, FpOk X pins H b)
    (k : ∀ b u, b ∉ ch → s.heap.get? b = some u → h'.get? b = some u) : Inv X pins σ H { s with heap := h', toks := t' } := by
  have ne : ∀ b u, H b = some u → b ∉ ch := fun b u q z => by rw [(hf b z).1] at q; cases q
  refine I.step (g' := s.gens) (d' := s.drawn) (ch := ch) (fun b hb => ?_) (fun b u _ _ hx q _ => k b u hx q) (fun b u _ _ hx q _ => ⟨u.slots, k b u hx q⟩)
    (fun _ _ _ _ n => n) (fun b u hx q => ⟨u, k b u hx q⟩)
    (fun _ _ q => q) (fun _ _ _ q => q) (fun b ps q => ⟨#[], by rw [q]; simp⟩) (fun m hm => ?_) (fun b u q => ?_) I.bare
  · have fe := hf b hb
    exact ⟨fe.2.2.2.1, fe.2.1, fe.2.2.2.2.1, fe.2.2.2.2.2⟩
  · obtain ⟨ob, es, ep, ho, r⟩ := hm
    exact ⟨ob, es, ep, k _ ob (fun z => (hf _ z).2.1 rfl) ho, r⟩
  · refine (I.hok b u q).stay (fun c v hc r => k c v ?_ r) (fun c r => r) fun c xs r => r
    rcases hc with rfl | z
    · exact ne _ _ q
    · exact ne _ _ z
end
/-- at turn i a new tuple of the two items -/
def Itz (K : PySem.W.Frag) (a b : Addr) : It :=
  ⟨fun i H => ∃ xs ys x y, SqL K H a xs ∧ SqL K H b ys ∧ xs[i]? = some x ∧ ys[i]? = some y,
   fun i H v H' => ∃ p x y, H p = none ∧ v = .ref p ∧ H' = upd H p (.tup [x, y]) ∧ (∀ xs, SqL K H a xs → xs[i]? = some x) ∧ ∀ ys, SqL K H b ys → ys[i]? = some y,
   fun i H => ∃ xs ys, SqL K H a xs ∧ SqL K H b ys ∧ (xs.length ≤ i ∨ ys.length ≤ i)⟩
structure Apart5 (z TI TO i1 i2 : Addr) : Prop where
  TIz : TI ≠ z
  TOz : TO ≠ z
  i1z : i1 ≠ z
  i2z : i2 ≠ z
  TITO : TI ≠ TO
  TIi1 : TI ≠ i1
  TIi2 : TI ≠ i2
  TOi1 : TO ≠ i1
  TOi2 : TO ≠ i2
  i12 : i1 ≠ i2
def zipTn (a b z TI TO i1 i2 : Addr) (i : Nat) (h : Heap) : Prop := IsZip h z TI TO .none ∧ IsPair h TI (.ref i1) (.ref i2) ∧ (∃ x y, IsPair h TO x y) ∧ h.IsListIter i1 a i ∧ h.IsListIter i2 b i
theorem ne_cls {h : Heap} {a b : Addr} {o u : Obj} (ho : h.get? a = some o) (hu : h.get? b = some u) (hc : o.cls ≠ u.cls) : a ≠ b := fun z => by
  subst z
  rw [ho] at hu
  cases hu
  exact hc rfl
theorem zipApart {h : Heap} {a b z TI TO i1 i2 : Addr} {i : Nat} {xs ys : Array Value} (D : Apart5 z TI TO i1 i2) (st : zipTn a b z TI TO i1 i2 i h) (h1 : h.IsList a xs) (h2 : h.IsList b ys) : ZipApart z TI TO i1 i2 a b := by
  obtain ⟨hz, hTI, ⟨x, y, hTO⟩, ⟨o1, e1, c1, _⟩, ⟨o2, e2, c2, _⟩⟩ := st
  obtain ⟨oa, ea, ca, _⟩ := h1
  obtain ⟨ob, eb, cb, _⟩ := h2
  exact ⟨D.TIz, D.TOz, D.i1z, D.i2z, D.TITO, D.TIi1, D.TIi2, D.TOi1, D.TOi2, D.i12,
    ne_cls ea hz (by rw [ca]; show Value.type "list" ≠ Value.type "zip"; decide), ne_cls ea hTO (by rw [ca]; show Value.type "list" ≠ Value.type "tuple"; decide), ne_cls ea e1 (by rw [ca, c1]; decide), ne_cls ea e2 (by rw [ca, c2]; decide),
    ne_cls eb hz (by rw [cb]; show Value.type "list" ≠ Value.type "zip"; decide), ne_cls eb hTO (by rw [cb]; show Value.type "list" ≠ Value.type "tuple"; decide), ne_cls eb e1 (by rw [cb, c1]; decide), ne_cls eb e2 (by rw [cb, c2]; decide)⟩
theorem turn_zip {P : Program} {w : World} {K : PySem.W.Frag} {elts : List Expr} {x1 : Nat} {tpos : Pos} (a b z TI TO i1 i2 : Addr) (D : Apart5 z TI TO i1 i2) :
    Turn P w K (.Tuple elts x1 tpos) (Itz K a b) [z, TI, TO, i1, i2] z (zipTn a b z TI TO i1 i2) where
  mem := by simp
  obj := fun i h st c hc => by
    obtain ⟨hz, hTI, ⟨x, y, hTO⟩, ⟨o1, e1, c1, d1⟩, ⟨o2, e2, c2, d2⟩⟩ := st
    have hc' : c = z ∨ c = TI ∨ c = TO ∨ c = i1 ∨ c = i2 := by simpa using hc
    rcases hc' with rfl | rfl | rfl | rfl | rfl
    · exact ⟨_, hz, fun v q => by cases q⟩
    · exact ⟨_, hTI, fun v q => by cases q⟩
    · exact ⟨_, hTO, fun v q => by cases q⟩
    · exact ⟨_, e1, fun v q => by rw [d1] at q; cases q⟩
    · exact ⟨_, e2, fun v q => by rw [d2] at q; cases q⟩
  keep := fun i h h' st k => by
    obtain ⟨hz, hTI, ⟨x, y, hTO⟩, h1, h2⟩ := st
    exact ⟨k z (by simp) _ hz, k TI (by simp) _ hTI, ⟨x, y, k TO (by simp) _ hTO⟩, h1.at fun o q => k i1 (by simp) o q, h2.at fun o q => k i2 (by simp) o q⟩
  item := by
    intro X hP hw hK hc i pins s σ H E I hf st hg
    subst hP hw hK
    obtain ⟨xs, ys, x, y, hq1, hq2, hx, hy⟩ := hg
    obtain ⟨is1, rv1, p1, hz1⟩ := I.list hq1
    obtain ⟨is2, rv2, p2, hz2⟩ := I.list hq2
    obtain ⟨u1, hu1, ru1⟩ := rv1.get hx
    obtain ⟨u2, hu2, ru2⟩ := rv2.get hy
    have D7 := zipApart D st p1.isList p2.isList
    obtain ⟨hz, hTI, ⟨v1, v2, hTO⟩, st1, st2⟩ := id st
    refine wpAny_pyNext_zip_item D7 hz hTI hTO st1 st2 p1.isList p2.isList (x := u1) (by simpa using hu1) (y := u2) (by simpa using hu2) fun h1 a1 a2 a3 a4 a5 a6 hk => ?_
    refine ⟨_, rfl, wpAny_letOwnedTupleGo_zip a1 fun h2 he2 hs2 => ?_⟩
    have lt : ∀ {c o}, s.heap.get? c = some o → s.heap.objs.size ≠ c := fun e => Nat.ne_of_gt (Heap.lt_size e)
    have g2 : h2.get? s.heap.objs.size = some { cls := .type "tuple", data := .seq #[u1, u2] } := (hs2.2 _ (lt hz)).trans a5
    have kk : ∀ b o, b ∉ [z, TI, TO, i1, i2] → s.heap.get? b = some o → h2.get? b = some o := fun b o hb q =>
      (hs2.2 b (fun e => hb (by simp [e]))).trans (hk b o (fun e => hb (by simp [e])) (fun e => hb (by simp [e])) (fun e => hb (by simp [e])) (fun e => hb (by simp [e])) q)
    have new : ObjOk X.prog X.w (upd H s.heap.objs.size (.tup [x, y])) h2 s.heap.objs.size (.tup [x, y]) :=
      ⟨(by show 2 ≤ sizeLine; decide), [u1, u2], .cons ru1 (.cons ru2 .nil), _, g2, rfl, _, rfl⟩
    have I2 := I.turnN (h' := h2) (t' := s.toks) hf kk (Nat.le_refl _) new
    have hn : H s.heap.objs.size = none := I.hok.fresh (Nat.le_refl _)
    refine ⟨.ref s.heap.objs.size, _, I2, rfl, ⟨_, x, y, hn, rfl, rfl, fun zs hq => by rw [I.list_inj hq hq1]; exact hx, fun zs hq => by rw [I.list_inj hq hq2]; exact hy⟩,
      ⟨he2, (hs2.2 _ D.TIz).trans (hk _ _ D.TIz D.TITO D.TIi1 D.TIi2 hTI), ⟨u1, u2, (hs2.2 _ D.TOz).trans a2⟩, a3.extBut hs2.extBut D.i1z, a4.extBut hs2.extBut D.i2z⟩, fun b hb => ?_⟩
    have hbs : b ≠ s.heap.objs.size := by
      obtain ⟨o1, e1, _⟩ := st1
      obtain ⟨o2, e2, _⟩ := st2
      have hc' : b = z ∨ b = TI ∨ b = TO ∨ b = i1 ∨ b = i2 := by simpa using hb
      rcases hc' with rfl | rfl | rfl | rfl | rfl
      · exact (lt hz).symm
      · exact (lt hTI).symm
      · exact (lt hTO).symm
      · exact (lt e1).symm
      · exact (lt e2).symm
    rw [upd_ne hbs]
    exact (hf b hb).1
  done := by
    intro X hP hw hK hc i pins s σ H E I hf st hg
    subst hP hw hK
    obtain ⟨xs, ys, hq1, hq2, hx⟩ := hg
    obtain ⟨is1, rv1, p1, hz1⟩ := I.list hq1
    obtain ⟨is2, rv2, p2, hz2⟩ := I.list hq2
    have D7 := zipApart D st p1.isList p2.isList
    obtain ⟨hz, hTI, ⟨v1, v2, hTO⟩, st1, st2⟩ := id st
    have l1 := rv1.length
    have l2 := rv2.length
    refine wpAny_pyNext_zip_end (I.ok.hd hc) D7 hz hTI hTO st1 st2 p1.isList p2.isList ?_ fun h' hk => ⟨rfl, I.turnedN (t' := s.toks) hf fun b o hb q => hk b o (fun e => hb (by simp [e])) (fun e => hb (by simp [e])) (fun e => hb (by simp [e])) (fun e => hb (by simp [e])) q⟩
    rcases hx with hx | hx
    · exact .inl (by simp; omega)
    · exact .inr (by simp; omega)
  self := fun _ _ _ _ _ st h => wpAny_pyIter_zip st.1 h
section
variable {X : Cx}
def iZip (K : PySem.W.Frag) (ta : TA) : TI := fun σ H R => ta σ H fun vs H1 => ∃ a b xs ys, vs = [.ref a, .ref b] ∧ SqL K H1 a xs ∧ SqL K H1 b ys ∧ R (Itz K a b) H1
theorem pi_zip {a b : Expr} {ta : TA} {p pos : Pos} {elts : List Expr} {x1 : Nat} {tpos : Pos} (hg : Gl X "zip") (hm : X.mg "zip" = none) (hv : bootBuiltins "zip" = some (.type "zip")) (ha : PA X [a, b] ta)
    (hs : starEach [a, b] X.env = [(false, eval a X.env), (false, eval b X.env)] := by rfl) (hs2 : starEach [b] X.env = [(false, eval b X.env)] := by rfl) :
    PI X (.Tuple elts x1 tpos) (.Call (.Name "zip" p) [a, b] [] pos) (iZip X.K ta) := by
  intro pins s σ H R I h
  refine Call_ (ld_blt I hg hm hv (PyProof.Rows.callWith_type1 (thn (ha pos pins s σ H _ I h) fun us s1 ⟨vs, H1, I1, r1, q1⟩ => ?_) (by rw [hs, hs2]) (by rw [hs2]; rfl)))
  obtain ⟨l1, l2, xs, ys, e, hq1, hq2, q⟩ := q1
  subst e
  cases r1 with
  | cons r rr =>
    cases rr with
    | cons r' rr =>
      cases rr
      cases r
      cases r'
      obtain ⟨is1, rv1, p1, hz1⟩ := I1.list hq1
      obtain ⟨is2, rv2, p2, hz2⟩ := I1.list hq2
      refine call_zip_2 p1.isList p2.isList fun h' hz hTI hTO hi1 hi2 hsz hk => ?_
      refine wpAny_pyIter_zip hz ?_
      have I2 : Inv X pins σ H1 { s1 with heap := h' } := I1.kept (t' := s1.toks) hk
      have D : Apart5 (s1.heap.objs.size + 4) (s1.heap.objs.size + 2) (s1.heap.objs.size + 3) s1.heap.objs.size (s1.heap.objs.size + 1) := by
        have k : ∀ n i j : Nat, i ≠ j → n + i ≠ n + j := fun n i j h => by omega
        exact ⟨k _ 2 4 (by decide), k _ 3 4 (by decide), k _ 0 4 (by decide), k _ 1 4 (by decide), k _ 2 3 (by decide), k _ 2 0 (by decide), k _ 2 1 (by decide), k _ 3 0 (by decide), k _ 3 1 (by decide), k _ 0 1 (by decide)⟩
      refine ⟨s1.heap.objs.size + 4, _, _, Itz X.K l1 l2, H1, rfl, I2, turn_zip l1 l2 _ _ _ _ _ D, ⟨hz, hTI, ⟨_, _, hTO⟩, hi1, hi2⟩, fun c hc => ?_, q⟩
      have hle : s1.heap.objs.size ≤ c := by
        have hc' : c = s1.heap.objs.size + 4 ∨ c = s1.heap.objs.size + 2 ∨ c = s1.heap.objs.size + 3 ∨ c = s1.heap.objs.size ∨ c = s1.heap.objs.size + 1 := by simpa using hc
        rcases hc' with rfl | rfl | rfl | rfl | rfl
        · exact Nat.le_add_right _ _
        · exact Nat.le_add_right _ _
        · exact Nat.le_add_right _ _
        · exact Nat.le_refl _
        · exact Nat.le_add_right _ _
      exact I1.fpOk hle (I1.hok.fresh hle)
end
/-- over zip of two lists that the body leaves as they are -/
theorem for_zip {K : PySem.W.Frag} {a b : Addr} {xs ys : List V} {g : TG} {tb : TS} {D : Ends} {σ : St} {H : Hp} (Pv : Nat → St → Hp → Prop) (h0 : Pv 0 σ H) (hl : ∀ i σ H, i ≤ min xs.length ys.length → Pv i σ H → SqL K H a xs ∧ SqL K H b ys)
    (hs : ∀ i x y σ H p, xs[i]? = some x → ys[i]? = some y → Pv i σ H → H p = none → g (.ref p) σ (upd H p (.tup [x, y])) fun σ2 H2 => tb { D with nx := Pv (i + 1), ct := Pv (i + 1), bk := D.nx } σ2 H2) (hd : ∀ σ H, Pv (min xs.length ys.length) σ H → D.nx σ H) :
    ∃ W : Nat → Nat → St → Hp → Prop, (∃ m, W 0 m σ H) ∧ ∀ i m σ H, W i m σ H →
      ((Itz K a b).stop i H ∧ D.nx σ H) ∨ ((Itz K a b).go i H ∧ ∃ N : St → Hp → Prop, (∀ σ' H', N σ' H' → ∃ m', m' < m ∧ W (i + 1) m' σ' H') ∧ ∀ x H', (Itz K a b).yld i H x H' → g x σ H' fun σ2 H2 => tb { D with nx := N, ct := N, bk := D.nx } σ2 H2) := by
  refine ⟨fun i m σ H => m = min xs.length ys.length - i ∧ i ≤ min xs.length ys.length ∧ Pv i σ H, ⟨min xs.length ys.length, rfl, Nat.zero_le _, h0⟩, ?_⟩
  rintro i m σ H ⟨rfl, hi, p⟩
  obtain ⟨q1, q2⟩ := hl i σ H hi p
  by_cases hlt : i < min xs.length ys.length
  · have k1 : i < xs.length := by omega
    have k2 : i < ys.length := by omega
    refine .inr ⟨⟨xs, ys, xs[i], ys[i], q1, q2, List.getElem?_eq_getElem k1, List.getElem?_eq_getElem k2⟩, Pv (i + 1), fun σ' H' p' => ⟨min xs.length ys.length - (i + 1), by omega, rfl, hlt, p'⟩, fun x H' y => ?_⟩
    obtain ⟨c, x, y, hn, e1, e2, hx, hy⟩ := y
    subst e1 e2
    exact hs i x y σ H c (hx xs q1) (hy ys q2) p hn
  · have e : i = min xs.length ys.length := by omega
    subst e
    exact .inl ⟨⟨xs, ys, q1, q2, by omega⟩, hd σ H p⟩
end L2

set_option Elab.async false
set_option linter.all false
set_option maxRecDepth 100000
set_option maxHeartbeats 4000000
namespace Tw
/-! depths of a tree's nodes, and its brackets -/
def brk : List Int → Int → List Int
  | [], u => List.replicate u.toNat 0
  | d :: r, u => List.replicate (u - d).toNat 0 ++ 1 :: brk r (d + 1)
/-- the depths that may come where u brackets are unclosed -/
def Dp : List Int → Int → Prop
  | [], u => 0 ≤ u
  | d :: r, u => 0 ≤ d ∧ d ≤ u ∧ Dp r (d + 1)
theorem Dp.pos : ∀ {l : List Int} {u : Int}, Dp l u → 0 ≤ u
  | [], _, h => h
  | _ :: _, _, h => Int.le_trans h.1 h.2.1
theorem brk_length : ∀ {l : List Int} {u : Int}, Dp l u → (brk l u).length = u.toNat + 2 * l.length
  | [], u, _ => by simp [brk]
  | d :: r, u, h => by
    have := brk_length h.2.2
    have h1 := h.1
    have h2 := h.2.1
    simp only [brk, List.length_append, List.length_replicate, List.length_cons, this]
    omega
theorem brk_step {l : List Int} {u x : Int} {t : List Int} (h : Dp l u) (e : brk l u = x :: t) :
    (x = 0 ∧ 1 ≤ u ∧ t = brk l (u - 1) ∧ Dp l (u - 1)) ∨ ∃ r, l = u :: r ∧ x = 1 ∧ t = brk r (u + 1) ∧ Dp r (u + 1) := by
  cases l with
  | nil =>
    have hu : 0 ≤ u := h
    rcases Int.lt_or_le 0 u with z | z
    · refine .inl ?_
      have e1 : u.toNat = (u - 1).toNat + 1 := by omega
      simp only [brk] at e ⊢
      rw [e1, List.replicate_succ] at e
      injection e with e2 e3
      exact ⟨e2.symm, z, e3.symm, show 0 ≤ u - 1 by omega⟩
    · have : u.toNat = 0 := by omega
      simp only [brk] at e
      rw [this] at e
      cases e
  | cons d r =>
    obtain ⟨h1, h2, h3⟩ := h
    rcases Int.lt_or_le d u with z | z
    · refine .inl ?_
      have e1 : (u - d).toNat = (u - 1 - d).toNat + 1 := by omega
      simp only [brk] at e ⊢
      rw [e1, List.replicate_succ, List.cons_append] at e
      injection e with e2 e3
      exact ⟨e2.symm, by omega, e3.symm, h1, by omega, h3⟩
    · have : u = d := by omega
      subst this
      refine .inr ⟨r, rfl, ?_⟩
      simp only [brk] at e
      rw [Int.sub_self] at e
      injection e with e2 e3
      exact ⟨e2.symm, e3.symm, h3⟩
theorem brk_nil {l : List Int} {u : Int} (h : Dp l u) (e : brk l u = []) : l = [] ∧ u = 0 := by
  have := brk_length h
  rw [e] at this
  have hp := h.pos
  cases l with
  | nil =>
    refine ⟨rfl, ?_⟩
    have : 0 = u.toNat + 2 * 0 := this
    omega
  | cons d r =>
    rw [List.length_cons] at this
    have : 0 = u.toNat + 2 * (r.length + 1) := this
    omega
/-- the depths of a tree's nodes -/
def GoodD (ds : List Int) : Prop := ds[0]? = some 0 ∧ ∀ i x y, ds[i]? = some x → ds[i + 1]? = some y → 1 ≤ y ∧ y ≤ x + 1
theorem dp_of : ∀ (r : List Int) (a : Int), (∀ (i : Nat) (x y : Int), (a :: r)[i]? = some x → (a :: r)[i + 1]? = some y → 1 ≤ y ∧ y ≤ x + 1) → 0 ≤ a → Dp r (a + 1)
  | [], a, _, ha => by show 0 ≤ a + 1; omega
  | d :: r, a, h, ha => by
    have h0 := h 0 a d rfl rfl
    exact ⟨by omega, h0.2, dp_of r d (fun i x y h1 h2 => h (i + 1) x y h1 h2) (by omega)⟩
theorem GoodD.dp {ds : List Int} (h : GoodD ds) : Dp ds 0 := by
  cases ds with
  | nil => exact absurd h.1 (by simp)
  | cons d r =>
    have : d = 0 := by
      have := h.1
      exact Option.some.inj this
    subst this
    exact ⟨by decide, by decide, dp_of r 0 h.2 (by decide)⟩
theorem GoodD.one {ds : List Int} (h : GoodD ds) {i : Nat} {d : Int} (hi : 0 < i) (hd : ds[i]? = some d) : 1 ≤ d := by
  obtain ⟨j, rfl⟩ : ∃ j, i = j + 1 := ⟨i - 1, by omega⟩
  have hl := (List.getElem?_eq_some_iff.mp hd).1
  have := h.2 j ds[j] d (List.getElem?_eq_getElem (by omega)) hd
  exact this.1
theorem GoodD.root : GoodD [0] := ⟨rfl, fun i x y _ h2 => by simp at h2⟩
theorem GoodD.snoc {ds : List Int} {a d : Int} (h : GoodD ds) (hl : ds[ds.length - 1]? = some a) (h1 : 1 ≤ d) (h2 : d ≤ a + 1) : GoodD (ds ++ [d]) := by
  have h0 : 0 < ds.length := by
    have := (List.getElem?_eq_some_iff.mp h.1).1
    exact this
  refine ⟨by rw [List.getElem?_append_left h0]; exact h.1, fun i x y e1 e2 => ?_⟩
  rcases Nat.lt_or_ge (i + 1) ds.length with z | z
  · rw [List.getElem?_append_left (by omega)] at e1
    rw [List.getElem?_append_left z] at e2
    exact h.2 i x y e1 e2
  · have hz := (List.getElem?_eq_some_iff.mp e2).1
    rw [List.length_append, List.length_singleton] at hz
    have ei : i = ds.length - 1 := by omega
    rw [List.getElem?_append_left (by omega), ei, hl] at e1
    rw [List.getElem?_append_right z, show i + 1 - ds.length = 0 from by omega] at e2
    have e2 : d = y := Option.some.inj e2
    have e1 : a = x := Option.some.inj e1
    subst e1 e2
    exact ⟨h1, h2⟩
end Tw

set_option Elab.async false
set_option maxRecDepth 100000
set_option maxHeartbeats 4000000
namespace Tw
open PySem L2
def top (i : Nat) : Stmt := PySem.Challenge.pw_thinwood_k43_a_tree_kept.main.body.getD i (.Pass ⟨0, 0, 0, 0⟩)
abbrev s_packed : Stmt := top 8
theorem sc_packed : FnScope ["bits"] ["bits"] (defScope s_packed) := ⟨rfl, rfl, rfl, by decide +kernel, rfl, by decide +kernel, by decide +kernel⟩
abbrev s_check_row : Stmt := top 9
theorem sc_check_row : FnScope ["bits", "bit"] ["bits"] (defScope s_check_row) := ⟨rfl, rfl, rfl, by decide +kernel, rfl, by decide +kernel, by decide +kernel⟩
abbrev s_block_of : Stmt := top 10
theorem sc_block_of : FnScope ["bits", "block", "bit"] ["bits"] (defScope s_block_of) := ⟨rfl, rfl, rfl, by decide +kernel, rfl, by decide +kernel, by decide +kernel⟩
abbrev s_bit_in : Stmt := top 11
theorem sc_bit_in : FnScope ["block", "k"] ["block", "k"] (defScope s_bit_in) := ⟨rfl, rfl, rfl, by decide +kernel, rfl, by decide +kernel, by decide +kernel⟩
abbrev s_bits_of : Stmt := top 12
theorem sc_bits_of : FnScope ["block", "upto"] ["block", "upto"] (defScope s_bits_of) := ⟨rfl, rfl, rfl, by decide +kernel, rfl, by decide +kernel, by decide +kernel⟩
abbrev s_ones_in : Stmt := top 13
theorem sc_ones_in : FnScope ["block", "upto"] ["block", "upto"] (defScope s_ones_in) := ⟨rfl, rfl, rfl, by decide +kernel, rfl, by decide +kernel, by decide +kernel⟩
abbrev s_nets_of : Stmt := top 14
theorem sc_nets_of : FnScope ["block", "upto", "nets", "net", "bit"] ["block", "upto"] (defScope s_nets_of) := ⟨rfl, rfl, rfl, by decide +kernel, rfl, by decide +kernel, by decide +kernel⟩
abbrev s_low_in : Stmt := top 15
theorem sc_low_in : FnScope ["block", "upto"] ["block", "upto"] (defScope s_low_in) := ⟨rfl, rfl, rfl, by decide +kernel, rfl, by decide +kernel, by decide +kernel⟩
abbrev s_heap_of : Stmt := top 18
theorem sc_heap_of : FnScope ["numbers", "size", "nodes", "node"] ["numbers"] (defScope s_heap_of) := ⟨rfl, rfl, rfl, by decide +kernel, rfl, by decide +kernel, by decide +kernel⟩
abbrev s_size_of : Stmt := top 19
theorem sc_size_of : FnScope ["many", "size"] ["many"] (defScope s_size_of) := ⟨rfl, rfl, rfl, by decide +kernel, rfl, by decide +kernel, by decide +kernel⟩
abbrev s_lesser_of : Stmt := top 20
theorem sc_lesser_of : FnScope ["one", "other"] ["one", "other"] (defScope s_lesser_of) := ⟨rfl, rfl, rfl, by decide +kernel, rfl, by decide +kernel, by decide +kernel⟩
abbrev s_kept_row : Stmt := top 22
theorem sc_kept_row : FnScope ["bits", "blocks"] ["bits"] (defScope s_kept_row) := ⟨rfl, rfl, rfl, by decide +kernel, rfl, by decide +kernel, by decide +kernel⟩
abbrev s_ahead_of : Stmt := top 23
theorem sc_ahead_of : FnScope ["blocks", "ahead", "block"] ["blocks"] (defScope s_ahead_of) := ⟨rfl, rfl, rfl, by decide +kernel, rfl, by decide +kernel, by decide +kernel⟩
abbrev s_is_tree : Stmt := top 25
theorem sc_is_tree : FnScope ["bits", "level", "at", "bit"] ["bits"] (defScope s_is_tree) := ⟨rfl, rfl, rfl, by decide +kernel, rfl, by decide +kernel, by decide +kernel⟩
abbrev s_check_brackets : Stmt := top 26
theorem sc_check_brackets : FnScope ["bits"] ["bits"] (defScope s_check_brackets) := ⟨rfl, rfl, rfl, by decide +kernel, rfl, by decide +kernel, by decide +kernel⟩
abbrev s_kept_brackets : Stmt := top 27
theorem sc_kept_brackets : FnScope ["bits", "row", "tables", "blocks", "lows"] ["bits"] (defScope s_kept_brackets) := ⟨rfl, rfl, rfl, by decide +kernel, rfl, by decide +kernel, by decide +kernel⟩
abbrev s_low_of : Stmt := top 28
theorem sc_low_of : FnScope ["tables", "number", "block"] ["tables", "number", "block"] (defScope s_low_of) := ⟨rfl, rfl, rfl, by decide +kernel, rfl, by decide +kernel, by decide +kernel⟩
abbrev s_base_of : Stmt := top 29
theorem sc_base_of : FnScope ["tables", "number"] ["tables", "number"] (defScope s_base_of) := ⟨rfl, rfl, rfl, by decide +kernel, rfl, by decide +kernel, by decide +kernel⟩
abbrev s_end_within : Stmt := top 30
theorem sc_end_within : FnScope ["number", "upto"] ["number", "upto"] (defScope s_end_within) := ⟨rfl, rfl, rfl, by decide +kernel, rfl, by decide +kernel, by decide +kernel⟩
abbrev s_check_depths : Stmt := top 33
theorem sc_check_depths : FnScope ["depths", "ahead", "depth"] ["depths"] (defScope s_check_depths) := ⟨rfl, rfl, rfl, by decide +kernel, rfl, by decide +kernel, by decide +kernel⟩
abbrev s_brackets_of : Stmt := top 34
theorem sc_brackets_of : FnScope ["depths", "bits", "unclosed", "depth"] ["depths"] (defScope s_brackets_of) := ⟨rfl, rfl, rfl, by decide +kernel, rfl, by decide +kernel, by decide +kernel⟩
abbrev s_kept_tree : Stmt := top 35
theorem sc_kept_tree : FnScope ["depths"] ["depths"] (defScope s_kept_tree) := ⟨rfl, rfl, rfl, by decide +kernel, rfl, by decide +kernel, by decide +kernel⟩
abbrev s_law_cell_at : Stmt := top 37
theorem sc_law_cell_at : FnScope ["_law_script", "_law_k"] ["_law_script", "_law_k"] (defScope s_law_cell_at) := ⟨rfl, rfl, rfl, by decide +kernel, rfl, by decide +kernel, by decide +kernel⟩
abbrev s_law_whole : Stmt := top 38
theorem sc_law_whole : FnScope ["_law_found"] ["_law_found"] (defScope s_law_whole) := ⟨rfl, rfl, rfl, by decide +kernel, rfl, by decide +kernel, by decide +kernel⟩
abbrev s_law_depths : Stmt := top 39
theorem sc_law_depths : FnScope ["_law_script", "_law_depths_here", "_law_cell", "_law_number", "_law_many", "_law_up", "_law_k", "_law_deep"] ["_law_script"] (defScope s_law_depths) := ⟨rfl, rfl, rfl, by decide +kernel, rfl, by decide +kernel, by decide +kernel⟩
abbrev s_law_walked : Stmt := top 40
theorem sc_law_walked : FnScope ["_law_blocks", "_law_depths_here", "_law_ones", "_law_lows", "_law_deep", "_law_node", "_law_j", "_law_rest", "_law_low", "_law_at"] ["_law_blocks", "_law_depths_here"] (defScope s_law_walked) := ⟨rfl, rfl, rfl, by decide +kernel, rfl, by decide +kernel, by decide +kernel⟩
abbrev s_law_heap : Stmt := top 41
theorem sc_law_heap : FnScope ["_law_nodes", "_law_lows", "_law_size", "_law_i", "_law_told", "_law_some"] ["_law_nodes", "_law_lows"] (defScope s_law_heap) := ⟨rfl, rfl, rfl, by decide +kernel, rfl, by decide +kernel, by decide +kernel⟩
abbrev s_law_good : Stmt := top 42
theorem sc_law_good : FnScope ["_law_found", "_law_depths_here", "_law_tables", "_law_blocks", "_law_ones", "_law_lows"] ["_law_found", "_law_depths_here"] (defScope s_law_good) := ⟨rfl, rfl, rfl, by decide +kernel, rfl, by decide +kernel, by decide +kernel⟩
abbrev s_law_no_tree : Stmt := top 43
theorem sc_law_no_tree : FnScope ["_law_depths_here", "_law_told", "e"] ["_law_depths_here"] (defScope s_law_no_tree) := ⟨rfl, rfl, rfl, by decide +kernel, rfl, by decide +kernel, by decide +kernel⟩
abbrev s_law_too_many : Stmt := top 44
theorem sc_law_too_many : FnScope ["_law_depths_here", "_law_told", "e"] ["_law_depths_here"] (defScope s_law_too_many) := ⟨rfl, rfl, rfl, by decide +kernel, rfl, by decide +kernel, by decide +kernel⟩
abbrev s_law : Stmt := top 45
theorem sc_law : FnScope ["_law_script", "_law_depths_here", "_law_handed", "_law_at", "_law_odd", "_law_found"] ["_law_script"] (defScope s_law) := ⟨rfl, rfl, rfl, by decide +kernel, rfl, by decide +kernel, by decide +kernel⟩
theorem lens1 {α : Type} {C : List α → Prop} {us : List α} (hl : us.length = 1) (h : ∀ x0, C [x0]) : C us := match us, hl with | [_], _ => h _
theorem lens2 {α : Type} {C : List α → Prop} {us : List α} (hl : us.length = 2) (h : ∀ x0 x1, C [x0, x1]) : C us := match us, hl with | [_, _], _ => h _ _
theorem lens3 {α : Type} {C : List α → Prop} {us : List α} (hl : us.length = 3) (h : ∀ x0 x1 x2, C [x0, x1, x2]) : C us := match us, hl with | [_, _, _], _ => h _ _ _
set_option genInjectivity false in
set_option genSizeOf false in
structure Ad where
  f_packed : Addr
  fd_packed : FuncData
  f_check_row : Addr
  fd_check_row : FuncData
  f_block_of : Addr
  fd_block_of : FuncData
  f_bit_in : Addr
  fd_bit_in : FuncData
  f_bits_of : Addr
  fd_bits_of : FuncData
  f_ones_in : Addr
  fd_ones_in : FuncData
  f_nets_of : Addr
  fd_nets_of : FuncData
  f_low_in : Addr
  fd_low_in : FuncData
  f_heap_of : Addr
  fd_heap_of : FuncData
  f_size_of : Addr
  fd_size_of : FuncData
  f_lesser_of : Addr
  fd_lesser_of : FuncData
  f_kept_row : Addr
  fd_kept_row : FuncData
  f_ahead_of : Addr
  fd_ahead_of : FuncData
  f_is_tree : Addr
  fd_is_tree : FuncData
  f_check_brackets : Addr
  fd_check_brackets : FuncData
  f_kept_brackets : Addr
  fd_kept_brackets : FuncData
  f_low_of : Addr
  fd_low_of : FuncData
  f_base_of : Addr
  fd_base_of : FuncData
  f_end_within : Addr
  fd_end_within : FuncData
  f_check_depths : Addr
  fd_check_depths : FuncData
  f_brackets_of : Addr
  fd_brackets_of : FuncData
  f_kept_tree : Addr
  fd_kept_tree : FuncData
  f_law_cell_at : Addr
  fd_law_cell_at : FuncData
  f_law_whole : Addr
  fd_law_whole : FuncData
  f_law_depths : Addr
  fd_law_depths : FuncData
  f_law_walked : Addr
  fd_law_walked : FuncData
  f_law_heap : Addr
  fd_law_heap : FuncData
  f_law_good : Addr
  fd_law_good : FuncData
  f_law_no_tree : Addr
  fd_law_no_tree : FuncData
  f_law_too_many : Addr
  fd_law_too_many : FuncData
  f_law : Addr
  fd_law : FuncData
  t_BLOCK_BITS : Tok
  t_MOST_BITS : Tok
  t_MOST_NODES : Tok
  t_MOST_NUMBERS : Tok
  c_NoTree : Addr
  c_TooMany : Addr
  c_WoodError : Addr
structure Tx (K : PySem.W.Frag) (mg : Str → Option Value) (a : Ad) : Prop where
  D_packed : Df K mg "packed" s_packed ["bits"] a.f_packed a.fd_packed
  D_check_row : Df K mg "check_row" s_check_row ["bits"] a.f_check_row a.fd_check_row
  D_block_of : Df K mg "block_of" s_block_of ["bits"] a.f_block_of a.fd_block_of
  D_bit_in : Df K mg "bit_in" s_bit_in ["block", "k"] a.f_bit_in a.fd_bit_in
  D_bits_of : Df K mg "bits_of" s_bits_of ["block", "upto"] a.f_bits_of a.fd_bits_of
  D_ones_in : Df K mg "ones_in" s_ones_in ["block", "upto"] a.f_ones_in a.fd_ones_in
  D_nets_of : Df K mg "nets_of" s_nets_of ["block", "upto"] a.f_nets_of a.fd_nets_of
  D_low_in : Df K mg "low_in" s_low_in ["block", "upto"] a.f_low_in a.fd_low_in
  D_heap_of : Df K mg "heap_of" s_heap_of ["numbers"] a.f_heap_of a.fd_heap_of
  D_size_of : Df K mg "size_of" s_size_of ["many"] a.f_size_of a.fd_size_of
  D_lesser_of : Df K mg "lesser_of" s_lesser_of ["one", "other"] a.f_lesser_of a.fd_lesser_of
  D_kept_row : Df K mg "kept_row" s_kept_row ["bits"] a.f_kept_row a.fd_kept_row
  D_ahead_of : Df K mg "ahead_of" s_ahead_of ["blocks"] a.f_ahead_of a.fd_ahead_of
  D_is_tree : Df K mg "is_tree" s_is_tree ["bits"] a.f_is_tree a.fd_is_tree
  D_check_brackets : Df K mg "check_brackets" s_check_brackets ["bits"] a.f_check_brackets a.fd_check_brackets
  D_kept_brackets : Df K mg "kept_brackets" s_kept_brackets ["bits"] a.f_kept_brackets a.fd_kept_brackets
  D_low_of : Df K mg "low_of" s_low_of ["tables", "number", "block"] a.f_low_of a.fd_low_of
  D_base_of : Df K mg "base_of" s_base_of ["tables", "number"] a.f_base_of a.fd_base_of
  D_end_within : Df K mg "end_within" s_end_within ["number", "upto"] a.f_end_within a.fd_end_within
  D_check_depths : Df K mg "check_depths" s_check_depths ["depths"] a.f_check_depths a.fd_check_depths
  D_brackets_of : Df K mg "brackets_of" s_brackets_of ["depths"] a.f_brackets_of a.fd_brackets_of
  D_kept_tree : Df K mg "kept_tree" s_kept_tree ["depths"] a.f_kept_tree a.fd_kept_tree
  D_law_cell_at : Df K mg "_law_cell_at" s_law_cell_at ["_law_script", "_law_k"] a.f_law_cell_at a.fd_law_cell_at
  D_law_whole : Df K mg "_law_whole" s_law_whole ["_law_found"] a.f_law_whole a.fd_law_whole
  D_law_depths : Df K mg "_law_depths" s_law_depths ["_law_script"] a.f_law_depths a.fd_law_depths
  D_law_walked : Df K mg "_law_walked" s_law_walked ["_law_blocks", "_law_depths_here"] a.f_law_walked a.fd_law_walked
  D_law_heap : Df K mg "_law_heap" s_law_heap ["_law_nodes", "_law_lows"] a.f_law_heap a.fd_law_heap
  D_law_good : Df K mg "_law_good" s_law_good ["_law_found", "_law_depths_here"] a.f_law_good a.fd_law_good
  D_law_no_tree : Df K mg "_law_no_tree" s_law_no_tree ["_law_depths_here"] a.f_law_no_tree a.fd_law_no_tree
  D_law_too_many : Df K mg "_law_too_many" s_law_too_many ["_law_depths_here"] a.f_law_too_many a.fd_law_too_many
  D_law : Df K mg "law" s_law ["_law_script"] a.f_law a.fd_law
  b_ValueError : mg "ValueError" = none
  b_bool : mg "bool" = none
  b_enumerate : mg "enumerate" = none
  b_int : mg "int" = none
  b_isinstance : mg "isinstance" = none
  b_len : mg "len" = none
  b_list : mg "list" = none
  b_min : mg "min" = none
  b_range : mg "range" = none
  b_reversed : mg "reversed" = none
  b_sum : mg "sum" = none
  b_tuple : mg "tuple" = none
  b_zip : mg "zip" = none
  c_BLOCK_BITS : mg "BLOCK_BITS" = some (.int 32 a.t_BLOCK_BITS)
  c_MOST_BITS : mg "MOST_BITS" = some (.int 4096 a.t_MOST_BITS)
  c_MOST_NODES : mg "MOST_NODES" = some (.int 2048 a.t_MOST_NODES)
  c_MOST_NUMBERS : mg "MOST_NUMBERS" = some (.int 4096 a.t_MOST_NUMBERS)
  g_NoTree : mg "NoTree" = some (.ref a.c_NoTree)
  g_TooMany : mg "TooMany" = some (.ref a.c_TooMany)
  g_WoodError : mg "WoodError" = some (.ref a.c_WoodError)
  x_NoTree : Exc K mg "NoTree" a.c_NoTree
  k_NoTree : ExcK K a.c_NoTree
  i_NoTree_NoTree : PySem.W.kitOne K (.ref a.c_NoTree) (.ref a.c_NoTree) = some true
  i_NoTree_TooMany : PySem.W.kitOne K (.ref a.c_NoTree) (.ref a.c_TooMany) = some false
  i_NoTree_WoodError : PySem.W.kitOne K (.ref a.c_NoTree) (.ref a.c_WoodError) = some true
  i_NoTree_ValueError : PySem.W.kitOne K (.ref a.c_NoTree) (.type "ValueError") = some true
  x_TooMany : Exc K mg "TooMany" a.c_TooMany
  k_TooMany : ExcK K a.c_TooMany
  i_TooMany_NoTree : PySem.W.kitOne K (.ref a.c_TooMany) (.ref a.c_NoTree) = some false
  i_TooMany_TooMany : PySem.W.kitOne K (.ref a.c_TooMany) (.ref a.c_TooMany) = some true
  i_TooMany_WoodError : PySem.W.kitOne K (.ref a.c_TooMany) (.ref a.c_WoodError) = some true
  i_TooMany_ValueError : PySem.W.kitOne K (.ref a.c_TooMany) (.type "ValueError") = some true
theorem ixN_nat {n j : Nat} (h : j < n) : ixN n (j : Int) = some j := by
  unfold ixN
  simp
  omega
theorem rep_one (k : Nat) (v : Int) : (List.replicate k [V.int v]).flatten = (List.replicate k v).map V.int := by
  induction k with
  | zero => rfl
  | succ k ih => rw [List.replicate_succ, List.flatten_cons, ih, List.replicate_succ]; rfl
theorem bt_ValueError : bootBuiltins "ValueError" = some (.type "ValueError") := by decide +kernel
theorem blk_lt : ∀ {ns : List Int}, IsBits ns → blk ns < 2 ^ ns.length
  | [], _ => by simp [blk]
  | b :: r, h => by
    have := blk_lt h.tail
    have := h.head
    simp only [blk, List.length_cons, Int.pow_succ]
    omega
theorem ahd_zero (ns : List Int) : ahd ns 0 = [0] := by simp [ahd]
theorem ahd_succ (ns : List Int) (n : Nat) : ahd ns (n + 1) = ahd ns n ++ [(ns.take (32 * (n + 1))).sum] := by
  unfold ahd
  rw [List.range_succ, List.map_append]
  rfl
theorem isBits_brk : ∀ (l : List Int) (u : Int), IsBits (brk l u)
  | [], u => fun b hb => .inl (List.eq_of_mem_replicate hb)
  | d :: r, u => fun b hb => by
    simp only [brk, List.mem_append, List.mem_cons] at hb
    rcases hb with hb | rfl | hb
    · exact .inl (List.eq_of_mem_replicate hb)
    · exact .inr rfl
    · exact isBits_brk r _ b hb
theorem sum_snoc {ns : List Int} {k : Nat} {b : Int} (h : ns[k]? = some b) : (ns.take (k + 1)).sum = (ns.take k).sum + b := by
  rw [List.take_add_one, h]
  simp
/-- where the walk over a tree's brackets stands behind k of them -/
theorem brk_at {ds : List Int} (hg : GoodD ds) : ∀ k : Nat, k ≤ (brk ds 0).length → ∃ nd : Nat, nd ≤ ds.length ∧ nd ≤ k ∧ ((brk ds 0).take k).sum = nd ∧ (brk ds 0).drop k = brk (ds.drop nd) (ht (brk ds 0) k) ∧ Dp (ds.drop nd) (ht (brk ds 0) k)
  | 0, _ => ⟨0, Nat.zero_le _, Nat.le_refl _, rfl, by rw [ht_zero]; rfl, by rw [ht_zero]; exact hg.dp⟩
  | k + 1, hk => by
    obtain ⟨nd, h1, h2, h3, h4, h5⟩ := brk_at hg k (by omega)
    have hg1 : (brk ds 0)[k]? = some (brk ds 0)[k] := List.getElem?_eq_getElem (by omega)
    have e1 : (brk ds 0).drop k = (brk ds 0)[k] :: (brk ds 0).drop (k + 1) := List.drop_eq_getElem_cons (by omega)
    rw [e1] at h4
    have hh := ht_succ hg1
    have hs := sum_snoc hg1
    rcases brk_step h5 h4.symm with ⟨z, _, e2, d2⟩ | ⟨r, e0, z, e2, d2⟩
    · rw [z] at hh hs
      refine ⟨nd, h1, by omega, by omega, ?_, ?_⟩
      · rw [hh, e2]
        congr 1
        omega
      · rw [hh, show ht (brk ds 0) k + 2 * 0 - 1 = ht (brk ds 0) k - 1 from by omega]
        exact d2
    · rw [z] at hh hs
      have hlt : nd < ds.length := by
        have := congrArg List.length e0
        rw [List.length_drop, List.length_cons] at this
        omega
      have ed : ds.drop (nd + 1) = r := by
        have : ds.drop (nd + 1) = (ds.drop nd).drop 1 := by rw [List.drop_drop]
        rw [this, e0]
        rfl
      have eh : ht (brk ds 0) k + 2 * 1 - 1 = ht (brk ds 0) k + 1 := by omega
      refine ⟨nd + 1, hlt, by omega, by omega, ?_, ?_⟩
      · rw [hh, eh, ed]
        exact e2
      · rw [hh, eh, ed]
        exact d2
theorem brk_len {ds : List Int} (hg : GoodD ds) : (brk ds 0).length = 2 * ds.length := by
  rw [brk_length hg.dp]
  show 0 + _ = _
  omega
/-- the next bracket -/
theorem brk_next {ds : List Int} (hg : GoodD ds) {k : Nat} (hk : k < (brk ds 0).length) : ((brk ds 0)[k]? = some 0 ∧ 0 < ht (brk ds 0) k) ∨ ((brk ds 0)[k]? = some 1 ∧ ∃ nd : Nat, ((brk ds 0).take k).sum = nd ∧ nd < ds.length ∧ ds[nd]? = some (ht (brk ds 0) k)) := by
  obtain ⟨nd, h1, h2, h3, h4, h5⟩ := brk_at hg k (by omega)
  have hg1 : (brk ds 0)[k]? = some (brk ds 0)[k] := List.getElem?_eq_getElem (by omega)
  have e1 : (brk ds 0).drop k = (brk ds 0)[k] :: (brk ds 0).drop (k + 1) := List.drop_eq_getElem_cons (by omega)
  rw [e1] at h4
  rcases brk_step h5 h4.symm with ⟨z, u, e2, d2⟩ | ⟨r, e0, z, e2, d2⟩
  · exact .inl ⟨by rw [hg1, z], by omega⟩
  · refine .inr ⟨by rw [hg1, z], nd, h3, ?_, ?_⟩
    · have := congrArg List.length e0
      rw [List.length_drop, List.length_cons] at this
      omega
    · have := List.getElem?_drop (xs := ds) (i := nd) (j := 0)
      rw [e0] at this
      exact this.symm
theorem brk_tree {ds : List Int} (hg : GoodD ds) : Tree (brk ds 0) := by
  have hl := brk_len hg
  have h0 : 0 < ds.length := (List.getElem?_eq_some_iff.mp hg.1).1
  refine ⟨by omega, ?_, fun k k0 k1 => ?_⟩
  · obtain ⟨nd, h1, h2, h3, h4, h5⟩ := brk_at hg _ (Nat.le_refl _)
    rw [List.drop_length] at h4
    exact (brk_nil h5 h4.symm).2
  · rcases brk_next hg k1 with ⟨_, z⟩ | ⟨_, nd, e1, e2, e3⟩
    · exact z
    · obtain ⟨_, _, _, _, _, h5⟩ := brk_at hg k (by omega)
      have hp := h5.pos
      rcases Nat.eq_zero_or_pos nd with rfl | z
      · unfold ht at hp
        omega
      · have := hg.one z e3
        omega
theorem brk_ht_le {ds : List Int} (hg : GoodD ds) {k : Nat} (hk : k ≤ (brk ds 0).length) : ht (brk ds 0) k ≤ ds.length := by
  obtain ⟨nd, h1, h2, h3, _⟩ := brk_at hg k hk
  unfold ht
  omega
theorem brk_sum {ds : List Int} (hg : GoodD ds) {k : Nat} (hk : (brk ds 0).length ≤ k) : ((brk ds 0).take k).sum = ds.length := by
  have h := (brk_tree hg).2.1
  have hl := brk_len hg
  unfold ht at h
  rw [List.take_length] at h
  rw [List.take_of_length_le hk]
  omega
/-- the least of the heights of a block's first k places, and of the number of nodes -/
def LowTo (ns : List Int) (n j k : Nat) (m : Int) : Prop := m ≤ n ∧ (m = n ∨ ∃ t, 32 * j < t ∧ t ≤ 32 * j + k ∧ m = ht ns t) ∧ ∀ t, 32 * j < t → t ≤ 32 * j + k → m ≤ ht ns t
theorem LowTo.zero (ns : List Int) (n j : Nat) : LowTo ns n j 0 n := ⟨Int.le_refl _, .inl rfl, fun t t1 t2 => by omega⟩
theorem LowTo.step {ns : List Int} {n j k : Nat} {m : Int} (h : LowTo ns n j k m) : LowTo ns n j (k + 1) (if ht ns (32 * j + k + 1) < m then ht ns (32 * j + k + 1) else m) := by
  obtain ⟨h1, h2, h3⟩ := h
  have g : ∀ t, 32 * j < t → t ≤ 32 * j + (k + 1) → t = 32 * j + k + 1 ∨ t ≤ 32 * j + k := fun t _ _ => by omega
  split
  · refine ⟨by omega, .inr ⟨32 * j + k + 1, by omega, by omega, rfl⟩, fun t t1 t2 => ?_⟩
    rcases g t t1 t2 with rfl | z
    · exact Int.le_refl _
    · have := h3 t t1 z
      omega
  · refine ⟨h1, ?_, fun t t1 t2 => ?_⟩
    · rcases h2 with h2 | ⟨t, t1, t2, e⟩
      · exact .inl h2
      · exact .inr ⟨t, t1, by omega, e⟩
    · rcases g t t1 t2 with rfl | z
      · omega
      · exact h3 t t1 z
theorem LowTo.low {ds : List Int} (hg : GoodD ds) {j k : Nat} {m : Int} (h : LowTo (brk ds 0) ds.length j k m) (hk : k = wide (brk ds 0).length j) (hj : 32 * j < (brk ds 0).length) : LowAt (brk ds 0) j m := by
  obtain ⟨h1, h2, h3⟩ := h
  unfold wide at hk
  refine ⟨?_, fun t t1 t2 t3 => h3 t t1 (by omega)⟩
  rcases h2 with e | ⟨t, t1, t2, e⟩
  · refine ⟨32 * j + 1, by omega, by omega, by omega, ?_⟩
    have a := h3 (32 * j + 1) (by omega) (by omega)
    have b := brk_ht_le hg (k := 32 * j + 1) (by omega)
    omega
  · exact ⟨t, t1, by omega, by omega, e⟩
theorem cut_two {xs : List V} {j : Nat} {x y : V} (hx : xs[2 * j]? = some x) (hy : xs[2 * j + 1]? = some y) : cutV xs (some (2 * (j : Int))) (some (2 * (j : Int) + 2)) = [x, y] := by
  have h1 := (List.getElem?_eq_some_iff.mp hy).1
  unfold cutV
  rw [show 2 * (j : Int) = ((2 * j : Nat) : Int) from by omega, show ((2 * j : Nat) : Int) + 2 = ((2 * j + 2 : Nat) : Int) from by omega, HT.sIx_nat, HT.sIx_nat, Nat.min_eq_left (by omega), Nat.min_eq_left (by omega), show 2 * j + 2 - 2 * j = 2 from by omega]
  refine List.ext_getElem? fun i => ?_
  match i with
  | 0 => rw [List.getElem?_take_of_lt (by omega), List.getElem?_drop, Nat.add_zero, hx]; rfl
  | 1 => rw [List.getElem?_take_of_lt (by omega), List.getElem?_drop, hy]; rfl
  | i + 2 => rw [List.getElem?_eq_none (by rw [List.length_take]; omega)]; rfl
/-- the numbers among what nodes bear -/
def intsV : List V → List Int
  | [] => []
  | .int i :: r => i :: intsV r
  | _ :: r => intsV r
theorem intsV_app : ∀ a b : List V, intsV (a ++ b) = intsV a ++ intsV b
  | [], b => rfl
  | x :: a, b => by
    cases x <;> simp [intsV, intsV_app a b]
theorem intsV_len : ∀ a : List V, (intsV a).length ≤ a.length
  | [] => Nat.le_refl _
  | x :: a => by
    have := intsV_len a
    cases x <;> simp only [intsV, List.length_cons] <;> omega
theorem comp_intsT {K : PySem.W.Frag} {c : Addr} {xs : List V} {cap : L2.St} {tt : TT} {te : TE} {Qf : Addr → Hp → Prop} {H : Hp} (hS : H c = some (.tup xs)) (hl : xs.length < sizeLine) (hn : ∀ x ∈ xs, NI x)
    (htt : ∀ (x : V) (H' : Hp) (Q : Bool → Hp → Prop), NI x → Q (!decide (x = .non)) H' → tt (some x :: cap) H' Q) (hte : ∀ (x : V) (H' : Hp) (Q : VK), Q x H' → te (some x :: cap) H' Q)
    (q : ∀ D, H D = none → Qf D (upd H D (.lst ((intsV xs).map V.int)))) : rdComp (Itt K c) cap tt te Qf H := by
  intro D hD
  refine ⟨fun i m ys H1 => m = xs.length - i ∧ i ≤ xs.length ∧ ys = (intsV (xs.take i)).map V.int ∧ H1 = upd H D (.lst ys), ⟨_, rfl, Nat.zero_le _, rfl, rfl⟩, ?_⟩
  rintro i m ys H1 ⟨rfl, hi, rfl, rfl⟩
  have hS1 : SqT K (upd H D (.lst ((intsV (xs.take i)).map V.int))) c xs := SqT.of ((same_new hD _) _ _ hS)
  by_cases hlt : i < xs.length
  · have hg : xs[i]? = some xs[i] := List.getElem?_eq_getElem hlt
    refine .inr ⟨⟨_, _, hS1, hg⟩, fun v H2 y => ?_⟩
    obtain ⟨rfl, y⟩ := y
    have e := y _ hS1
    rw [hg] at e
    cases e
    have hni := hn _ (List.getElem_mem hlt)
    have et : xs.take (i + 1) = xs.take i ++ [xs[i]] := by
      rw [List.take_add_one, hg]
      rfl
    have hz := intsV_len (xs.take i)
    rw [List.length_take] at hz
    refine htt _ _ _ hni ?_
    rcases hni with e | ⟨z, e⟩
    · rw [e]
      refine ⟨xs.length - (i + 1), by omega, rfl, hlt, ?_, rfl⟩
      rw [et, intsV_app, e]
      simp [intsV]
    · rw [e]
      refine hte _ _ _ ⟨upd_same, ?_, xs.length - (i + 1), by omega, rfl, hlt, ?_, ?_⟩
      · rw [List.length_map]
        omega
      · rw [et, intsV_app, e, List.map_append]
        rfl
      · rw [upd_upd]
  · have e : i = xs.length := by omega
    subst e
    rw [List.take_length]
    exact .inl ⟨⟨xs, SqT.of ((same_new hD _) _ _ hS), Nat.le_refl _⟩, q D hD⟩
theorem less_min {x y : V} (hx : NI x) (hy : NI y) : (intsV [x, y] = [] ∧ lessV x y = .non) ∨ (0 < (intsV [x, y]).length ∧ ∀ M, IsMin M (intsV [x, y]) → lessV x y = .int M) := by
  rcases hx with rfl | ⟨i, rfl⟩
  · rw [lessV_non]
    rcases hy with rfl | ⟨j, rfl⟩
    · exact .inl ⟨rfl, rfl⟩
    · refine .inr ⟨Nat.succ_pos _, fun M hM => ?_⟩
      rw [List.mem_singleton.mp (show M ∈ [j] from hM.1)]
  · rcases hy with rfl | ⟨j, rfl⟩
    · refine .inr ⟨Nat.succ_pos _, fun M hM => ?_⟩
      rw [List.mem_singleton.mp (show M ∈ [i] from hM.1)]
      rfl
    · refine .inr ⟨Nat.succ_pos _, fun M hM => ?_⟩
      have h1 : M ∈ [i, j] := hM.1
      have h2 : ∀ a ∈ [i, j], M ≤ a := hM.2
      have a1 := h2 i (by simp)
      have a2 := h2 j (by simp)
      simp only [List.mem_cons, List.not_mem_nil, or_false] at h1
      show V.int (if j < i then j else i) = _
      refine congrArg V.int ?_
      split <;> omega
theorem comp_filtT {K : PySem.W.Frag} {a : Addr} {ns : List Int} {cap : L2.St} {tt : TT} {te : TE} {Qf : Addr → Hp → Prop} {H : Hp} (p : Int → Bool) (hS : H a = some (.tup (ns.map V.int))) (hl : ns.length < sizeLine)
    (htt : ∀ (z : Int) (H' : Hp) (Q : Bool → Hp → Prop), Same H H' → Q (p z) H' → tt (some (.int z) :: cap) H' Q) (hte : ∀ (z : Int) (H' : Hp) (Q : VK), Same H H' → Q (.int z) H' → te (some (.int z) :: cap) H' Q)
    (q : ∀ D, H D = none → Qf D (upd H D (.lst ((ns.filter p).map V.int)))) : rdComp (Itt K a) cap tt te Qf H := by
  intro D hD
  refine ⟨fun i m ys H1 => m = ns.length - i ∧ i ≤ ns.length ∧ ys = ((ns.take i).filter p).map V.int ∧ H1 = upd H D (.lst ys), ⟨_, rfl, Nat.zero_le _, rfl, rfl⟩, ?_⟩
  rintro i m ys H1 ⟨rfl, hi, rfl, rfl⟩
  have hS1 : SqT K (upd H D (.lst (((ns.take i).filter p).map V.int))) a (ns.map V.int) := SqT.of ((same_new hD _) _ _ hS)
  by_cases hlt : i < ns.length
  · have hg : (ns.map V.int)[i]? = some (.int ns[i]) := by
      rw [List.getElem?_map, List.getElem?_eq_getElem hlt]
      rfl
    have et : ns.take (i + 1) = ns.take i ++ [ns[i]] := by
      rw [List.take_add_one, List.getElem?_eq_getElem hlt]
      rfl
    refine .inr ⟨⟨_, _, hS1, hg⟩, fun v H2 y => ?_⟩
    obtain ⟨rfl, y⟩ := y
    have e := y _ hS1
    rw [hg] at e
    cases e
    refine htt _ _ _ (same_new hD _) ?_
    have hz := List.length_filter_le p (ns.take i)
    rw [List.length_take] at hz
    by_cases hp : p ns[i] = true
    · rw [if_pos hp]
      refine hte _ _ _ (same_new hD _) ⟨upd_same, ?_, ns.length - (i + 1), by omega, rfl, hlt, ?_, ?_⟩
      · rw [List.length_map]
        omega
      · rw [et, List.filter_append, List.map_append, List.filter_cons_of_pos hp]
        rfl
      · rw [upd_upd]
    · rw [if_neg hp]
      refine ⟨ns.length - (i + 1), by omega, rfl, hlt, ?_, rfl⟩
      rw [et, List.filter_append, List.filter_cons_of_neg hp, List.filter_nil, List.append_nil]
  · have e : i = ns.length := by omega
    subst e
    rw [List.take_length]
    rw [List.take_length] at hS1
    exact .inl ⟨⟨_, hS1, by rw [List.length_map]; exact Nat.le_refl _⟩, q D hD⟩
section
variable {P : Program} {w : World} {K : PySem.W.Frag} {mg : Str → Option Value} {base : Heap} {a : Ad}
def sp_cell_at (K : PySem.W.Frag) : Sp := fun vs H Q _ => ∃ (p : Addr) (zs : List Int) (k : Nat), vs = [.ref p, .int (k : Int)] ∧ SqL K H p (zs.map V.int) ∧ Q (.int ((zs[k]?).getD 0)) H
theorem ok_law_cell_at (T : Tx K mg a) : FnOk P w K mg base CX0 1 a.f_law_cell_at a.fd_law_cell_at ["_law_script", "_law_k"] (sp_cell_at K) := by
  refine T.D_law_cell_at.F.ok sc_law_cell_at (fun vs H Q E h => ?_) (fun cdv A outer s H vs Q E hr h => ?_)
  · obtain ⟨p, zs, k, rfl, _⟩ := h
    rfl
  obtain ⟨p, zs, k, rfl, hS, q⟩ := h
  refine ⟨_, (pss_cons (ps_if (pt_cmpR op_lt (pv 1) (pe_callB call_len_seq rfl T.b_len Tw.bt_len (pa_cons (pv 0) pa_nil)) (nomark _)) (pss_one (ps_ret (pe_ix ix_list (pv 0) (pv 1) (fun _ _ => rfl)))) pss_nil)
    (pss_one (ps_ret pe_int))), ?_⟩
  refine ⟨_, rfl, _, rfl, p, _, rfl, .inl hS, _, _, rfl, rfl, _, rfl, ite2 (fun c => ?_) fun c => ?_⟩
  · have c := of_decide_eq_true c
    rw [List.length_map] at c
    have hk : zs[k]? = some zs[k] := List.getElem?_eq_getElem (by omega)
    rw [hk] at q
    exact ⟨_, rfl, _, rfl, p, _, _, _, rfl, rfl, hS, atI_int hk, q⟩
  · have c : ¬ (k : Int) < ((zs.map V.int).length : Int) := fun z => c (decide_eq_true z)
    rw [List.length_map] at c
    rw [List.getElem?_eq_none (by omega)] at q
    exact q

theorem band_one (x : Int) : Builtin.bitAnd x 1 = x % 2 := by
  unfold Builtin.bitAnd
  by_cases hx : 0 ≤ x
  · simp [hx]
    omega
  · simp [hx]
    unfold Builtin.bitNot
    omega
def sp_bit_in : Sp := fun vs H Q _ => ∃ (b k : Int), vs = [.int b, .int k] ∧ 0 ≤ k ∧ Q (.int (bit b k.toNat)) H
theorem ok_bit_in (T : Tx K mg a) : FnOk P w K mg base CX0 1 a.f_bit_in a.fd_bit_in ["block", "k"] sp_bit_in := by
  refine T.D_bit_in.F.ok sc_bit_in (fun vs H Q E h => ?_) (fun cdv A outer s H vs Q E hr h => ?_)
  · obtain ⟨b, k, rfl, _⟩ := h
    rfl
  obtain ⟨b, k, rfl, h0, q⟩ := h
  refine ⟨_, (pss_one (ps_ret (pe_op op_and (pe_op op_shr (pv 0) (pv 1)) pe_int))), ?_⟩
  refine ⟨_, rfl, _, rfl, _, _, rfl, rfl, h0, _, _, rfl, rfl, ?_⟩
  have e : Builtin.bitAnd (b / 2 ^ k.toNat) 1 = bit b k.toNat := band_one _
  show Q (.int (Builtin.bitAnd (b / 2 ^ k.toNat) 1)) H
  rw [e]
  exact q

def sp_bits_of : Sp := fun vs H Q _ => ∃ (b n : Int), vs = [.int b, .int n] ∧ 0 ≤ n ∧ n ≤ 32 ∧ ∀ r, H r = none → Q (.ref r) (upd H r (.lst ((bits b n.toNat).map V.int)))
theorem ok_bits_of (T : Tx K mg a) : FnOk P w K mg base CX0 2 a.f_bits_of a.fd_bits_of ["block", "upto"] sp_bits_of := by
  refine T.D_bits_of.F.ok sc_bits_of (fun vs H Q E h => ?_) (fun cdv A outer s H vs Q E hr h => ?_)
  · obtain ⟨b, n, rfl, _⟩ := h
    rfl
  obtain ⟨b, n, rfl, h0, h1, q⟩ := h
  refine ⟨_, (pss_one (ps_ret (pe_comp rfl (CompOk.one (j := 0) rfl (Or.inl rfl) rfl rfl (Or.inl rfl)) (pi_range1 rfl T.b_range (pa_cons (pv 1) pa_nil)) (fun _ _ _ _ => pts_nil) (fun _ _ _ _ => (pe_call ((ok_bit_in T).mono (by decide)) hr rfl T.D_bit_in.m T.D_bit_in.F.kp T.D_bit_in.b .nil pass0 (pa_cons (pv 1) (pa_cons (pv 0) pa_nil))))))), ?_⟩
  refine ⟨_, rfl, n, rfl, by omega, by omega, ?_⟩
  refine comp_rngS (fun j => bit b j) (by rw [sizeLine_eq]; omega) (fun _ _ _ q => q) (fun j H' Q hj sm q => ⟨_, rfl, _, rfl, _, _, rfl, by omega, ?_⟩) fun D hD => q D hD
  rw [show ((0 : Int) + (j : Int)).toNat = j from by omega]
  exact q

def sp_ones_in : Sp := fun vs H Q _ => ∃ (b n : Int), vs = [.int b, .int n] ∧ 0 ≤ n ∧ n ≤ 32 ∧ ∀ H', Same H H' → Q (.int (ones b n.toNat)) H'
theorem ok_ones_in (T : Tx K mg a) : FnOk P w K mg base CX0 3 a.f_ones_in a.fd_ones_in ["block", "upto"] sp_ones_in := by
  refine T.D_ones_in.F.ok sc_ones_in (fun vs H Q E h => ?_) (fun cdv A outer s H vs Q E hr h => ?_)
  · obtain ⟨b, n, rfl, _⟩ := h
    rfl
  obtain ⟨b, n, rfl, h0, h1, q⟩ := h
  refine ⟨_, (pss_one (ps_ret (pe_callB (call_sum rfl) rfl T.b_sum Tw.bt_sum (pa_cons (pe_call ((ok_bits_of T).mono (by decide)) hr rfl T.D_bits_of.m T.D_bits_of.F.kp T.D_bits_of.b .nil pass0 (pa_cons (pv 0) (pa_cons (pv 1) pa_nil))) pa_nil)))), ?_⟩
  exact ⟨_, rfl, _, rfl, b, n, rfl, h0, h1, fun r hr' => ⟨r, bits b n.toNat, rfl, SqL.of upd_same, q _ (same_new hr' _)⟩⟩

def sp_block_of (K : PySem.W.Frag) : Sp := fun vs H Q _ => ∃ (p : Addr) (ns : List Int), vs = [.ref p] ∧ SqL K H p (ns.map V.int) ∧ Q (.int (blk ns)) H
theorem ok_block_of (T : Tx K mg a) : FnOk P w K mg base CX0 1 a.f_block_of a.fd_block_of ["bits"] (sp_block_of K) := by
  refine T.D_block_of.F.ok sc_block_of (fun vs H Q E h => ?_) (fun cdv A outer s H vs Q E hr h => ?_)
  · obtain ⟨p, ns, rfl, _⟩ := h
    rfl
  obtain ⟨p, ns, rfl, hS, q⟩ := h
  refine ⟨_, (pss_cons (ps_set (i := 1) sc_block_of.nd rfl (Or.inl rfl) pe_int)
    (pss_cons (ps_for PassesOwn.never rfl (pi_rev rfl T.b_reversed (pa_cons (pv 0) pa_nil) Tw.bt_reversed) (pg_name (i := 2) sc_block_of.nd rfl (Or.inl rfl)) (pss_one (ps_set (i := 1) sc_block_of.nd rfl (Or.inl rfl) (pe_op op_add (pe_op op_mul pe_int (pv 1)) (pv 2)))))
    (pss_one (ps_ret (pv 1))))), ?_⟩
  refine ⟨_, rfl, p, _, rfl, hS, ?_⟩
  refine for_rev (xs := ns.map V.int) (fun i σ H' => (∃ k, σ = [some (.ref p), some (.int (blk (ns.drop (ns.length - i)))), k]) ∧ H' = H) ?_ ?_ ?_ ?_
  · refine ⟨⟨none, ?_⟩, rfl⟩
    rw [Nat.sub_zero, List.drop_length]
    rfl
  · rintro i σ H' _ ⟨_, rfl⟩
    exact hS
  · rintro i x σ H' hi hx ⟨⟨k, rfl⟩, rfl⟩
    obtain ⟨c, hc, rfl⟩ := int_at hx
    rw [List.length_map] at hi hc
    refine ⟨_, rfl, _, _, rfl, rfl, .inl ⟨by decide, by decide⟩, _, rfl, _, _, rfl, rfl, ⟨some (.int c), ?_⟩, rfl⟩
    have e : ns.drop (ns.length - (i + 1)) = c :: ns.drop (ns.length - i) := by
      have e1 : ns.length - (i + 1) = ns.length - 1 - i := by omega
      have e2 : ns.length - i = ns.length - 1 - i + 1 := by omega
      rw [e1, e2, List.drop_eq_getElem_cons (by omega)]
      congr 1
      have := List.getElem?_eq_some_iff.mp hc
      exact this.2
    rw [e]
    rfl
  · rintro σ H' ⟨⟨k, rfl⟩, rfl⟩
    rw [List.length_map, Nat.sub_self, List.drop_zero]
    exact ⟨_, rfl, q⟩

def sp_whole : Sp := fun vs H Q _ => ∃ i : Int, vs = [.int i] ∧ Q (.bl true) H
theorem ok_law_whole (T : Tx K mg a) : FnOk P w K mg base CX0 1 a.f_law_whole a.fd_law_whole ["_law_found"] sp_whole := by
  refine T.D_law_whole.F.ok sc_law_whole (fun vs H Q E h => ?_) (fun cdv A outer s H vs Q E hr h => ?_)
  · obtain ⟨i, rfl, _⟩ := h
    rfl
  obtain ⟨i, rfl, q⟩ := h
  refine ⟨_, (pss_one (ps_ret (pe_and (pe_callB call_isi rfl T.b_isinstance Tw.bt_isinstance (pa_cons (pv 0) (pa_cons (pe_bltn (v := .ty "int") rfl T.b_int Tw.bt_int rfl) pa_nil))) (pe_one (pe_not (pe_callB call_isi rfl T.b_isinstance Tw.bt_isinstance (pa_cons (pv 0) (pa_cons (pe_bltn (v := .ty "bool") rfl T.b_bool Tw.bt_bool rfl) pa_nil)))))))), ?_⟩
  refine ⟨_, rfl, _, "int", _, true, rfl, .int i, rfl, true, rfl, iteT ?_⟩
  exact ⟨_, rfl, _, "bool", _, false, rfl, .int i, rfl, false, rfl, q⟩

def sp_check_row (K : PySem.W.Frag) : Sp := fun vs H Q _ => ∃ (p : Addr) (ns : List Int), vs = [.ref p] ∧ SqL K H p (ns.map V.int) ∧ ns.length ≤ 4096 ∧ IsBits ns ∧ Q .non H
theorem ok_check_row (T : Tx K mg a) : FnOk P w K mg base CX0 1 a.f_check_row a.fd_check_row ["bits"] (sp_check_row K) := by
  refine T.D_check_row.F.ok sc_check_row (fun vs H Q E h => ?_) (fun cdv A outer s H vs Q E hr h => ?_)
  · obtain ⟨p, ns, rfl, _⟩ := h
    rfl
  obtain ⟨p, ns, rfl, hS, hl, hb, q⟩ := h
  refine ⟨_, (pss_cons (ps_if (pt_cmpR op_gt (pe_callB call_len_seq rfl T.b_len Tw.bt_len (pa_cons (pv 0) pa_nil)) (pe_glob (v := .int 4096) rfl T.c_MOST_BITS ⟨_, rfl⟩) (nomark _)) (pss_one ps_never) pss_nil)
    (pss_one (ps_for PassesOwn.never rfl (pi_list (pv 0)) (pg_name (i := 1) sc_check_row.nd rfl (Or.inl rfl)) (pss_one (ps_if (PW.pt (pw_and (pt_cmpR op_ne (pv 1) pe_int (nomark _)) (pw_and1 (pt_cmpR op_ne (pv 1) pe_int (nomark _))))) (pss_one ps_never) pss_nil))))), ?_⟩
  refine ⟨_, rfl, p, _, rfl, .inl hS, _, _, rfl, rfl, _, rfl, ite2 (fun c => ?_) fun _ => ?_⟩
  · have c := of_decide_eq_true c
    rw [List.length_map] at c
    omega
  refine ⟨_, rfl, p, rfl, ⟨_, hS⟩, ?_⟩
  refine for_list (xs := ns.map V.int) (fun i σ H' => (∃ k, σ = [some (.ref p), k]) ∧ H' = H) ⟨⟨none, rfl⟩, rfl⟩ ?_ ?_ ?_
  · rintro i σ H' _ ⟨_, rfl⟩
    exact hS
  · rintro i x σ H' hx ⟨⟨k, rfl⟩, rfl⟩
    obtain ⟨c, hc, rfl⟩ := int_at hx
    rcases hb c (List.mem_of_getElem? hc) with rfl | rfl
    · exact ⟨_, rfl, rfl, _, rfl, iteNS rfl (iteF ⟨⟨_, rfl⟩, rfl⟩)⟩
    · refine ⟨_, rfl, rfl, _, rfl, ite2 (fun _ => ⟨_, rfl, rfl, _, rfl, iteNS rfl ⟨⟨_, rfl⟩, rfl⟩⟩) fun z => absurd ?_ z⟩
      decide
  · rintro σ H' ⟨_, rfl⟩
    exact q

def sp_packed (K : PySem.W.Frag) : Sp := fun vs H Q _ => ∃ (p : Addr) (ns : List Int), vs = [.ref p] ∧ SqL K H p (ns.map V.int) ∧ ns.length ≤ 4096 ∧ IsBits ns ∧ ∀ r H', H r = none → Same H H' → H' r = some (.lst ((packs ns).map V.int)) → Q (.ref r) H'
theorem ok_packed (T : Tx K mg a) : FnOk P w K mg base CX0 2 a.f_packed a.fd_packed ["bits"] (sp_packed K) := by
  refine T.D_packed.F.ok sc_packed (fun vs H Q E h => ?_) (fun cdv A outer s H vs Q E hr h => ?_)
  · obtain ⟨p, ns, rfl, _⟩ := h
    rfl
  obtain ⟨p, ns, rfl, hS, hl, hb, q⟩ := h
  refine ⟨_, (pss_cons (ps_expr (pe_call ((ok_check_row T).mono (by decide)) hr rfl T.D_check_row.m T.D_check_row.F.kp T.D_check_row.b .nil pass0 (pa_cons (pv 0) pa_nil)))
    (pss_one (ps_ret (pe_comp rfl (CompOk.one (j := 0) rfl (Or.inl rfl) rfl rfl (Or.inl rfl)) (pi_range3 rfl T.b_range (pa_cons pe_int (pa_cons (pe_callB call_len_seq rfl T.b_len Tw.bt_len (pa_cons (pv 0) pa_nil)) (pa_cons (pe_glob (v := .int 32) rfl T.c_BLOCK_BITS ⟨_, rfl⟩) pa_nil)))) (fun _ _ _ _ => pts_nil) (fun _ _ _ _ => (pe_call ((ok_block_of T).mono (by decide)) hr rfl T.D_block_of.m T.D_block_of.F.kp T.D_block_of.b .nil pass0 (pa_cons (pe_slice (show SlR _ (rSlL K) from sl_list) (pv 1) (po_some (pv 0)) (po_some (pe_op op_add (pv 0) (pe_glob (v := .int 32) rfl T.c_BLOCK_BITS ⟨_, rfl⟩)))) pa_nil))))))), ?_⟩
  refine ⟨_, rfl, p, ns, rfl, hS, hl, hb, ?_⟩
  refine ⟨_, rfl, p, _, rfl, .inl hS, (ns.map V.int).length, rfl, ?_, ?_⟩
  · rw [List.length_map]
    exact Nat.lt_of_le_of_lt hl (by decide)
  rw [List.length_map]
  intro D hD
  refine ⟨fun i m ys H1 => m = many ns.length - i ∧ i ≤ many ns.length ∧ ys = ((List.range i).map (blkAt ns)).map V.int ∧ Same H H1 ∧ H1 D = some (.lst ys), ⟨_, rfl, Nat.zero_le _, rfl, same_new hD _, upd_same⟩, ?_⟩
  rintro i m ys H1 ⟨rfl, hi, rfl, sm, hD1⟩
  by_cases hlt : i < many ns.length
  · refine .inr ⟨hlt, fun v H2 y => ?_⟩
    obtain ⟨rfl, rfl⟩ := y
    unfold tNoIf
    refine iteT ?_
    refine ⟨_, rfl, _, rfl, _, rfl, _, rfl, _, _, rfl, rfl, _, rfl, p, _, rfl, sm.seq hS, fun p2 hp2 => ?_⟩
    have e1 : (0 : Int) + (i : Int) * 32 = ((32 * i : Nat) : Int) := by omega
    have e2 : (0 : Int) + (i : Int) * 32 + 32 = ((32 * i + 32 : Nat) : Int) := by omega
    rw [e1, show ((32 * i : Nat) : Int) + 32 = ((32 * i + 32 : Nat) : Int) from by omega, cut_nat, Nat.add_sub_cancel_left]
    refine ⟨p2, _, rfl, SqL.of upd_same, ?_⟩
    have ne : D ≠ p2 := ne_of_none hD1 hp2
    refine ⟨by rw [upd_ne ne]; exact hD1, ?_, many ns.length - (i + 1), by omega, rfl, hlt, ?_, same_set (sm.trans (same_new hp2 _)) hD _, upd_same⟩
    · rw [List.length_map, List.length_map, List.length_range]
      unfold many at hlt
      exact small (by omega)
    · rw [List.range_succ, List.map_append, List.map_append]
      rfl
  · have e : i = many ns.length := by omega
    subst e
    exact .inl ⟨Nat.le_refl _, q D H1 hD sm hD1⟩

def sp_ahead_of (K : PySem.W.Frag) : Sp := fun vs H Q _ => ∃ (p : Addr) (bs : List Int), vs = [.ref p] ∧ SqL K H p (bs.map V.int) ∧ bs.length ≤ 4096 ∧ ∀ r H', H r = none → Same H H' → H' r = some (.tup ((aheads bs bs.length).map V.int)) → Q (.ref r) H'
theorem ok_ahead_of (T : Tx K mg a) : FnOk P w K mg base CX0 4 a.f_ahead_of a.fd_ahead_of ["blocks"] (sp_ahead_of K) := by
  refine T.D_ahead_of.F.ok sc_ahead_of (fun vs H Q E h => ?_) (fun cdv A outer s H vs Q E hr h => ?_)
  · obtain ⟨p, bs, rfl, _⟩ := h
    rfl
  obtain ⟨p, bs, rfl, hS, hl, q⟩ := h
  refine ⟨_, (pss_cons (ps_set (i := 1) sc_ahead_of.nd rfl (Or.inl rfl) (pe_lst (pa_cons pe_int pa_nil)))
    (pss_cons (ps_for PassesOwn.never rfl (pi_list (pv 0)) (pg_name (i := 2) sc_ahead_of.nd rfl (Or.inl rfl)) (pss_one (ps_expr (pe_bm PySem.F.plainAttrs_list PySem.F.slot_list_append PySem.F.type_list_append mt_append (pv 1) (pa_cons (pe_op op_add (pe_ix ix_list (pv 1) (pe_un un_neg pe_int) (fun _ _ => rfl)) (pe_call ((ok_ones_in T).mono (by decide)) hr rfl T.D_ones_in.m T.D_ones_in.F.kp T.D_ones_in.b .nil pass0 (pa_cons (pv 2) (pa_cons (pe_glob (v := .int 32) rfl T.c_BLOCK_BITS ⟨_, rfl⟩) pa_nil)))) pa_nil)))))
    (pss_one (ps_ret (pe_callTy call_tuple_of rfl T.b_tuple Tw.bt_tuple (pa_cons (pv 1) pa_nil)))))), ?_⟩
  refine ⟨(by show 1 ≤ sizeLine; decide), fun r hr' => ?_⟩
  refine ⟨_, rfl, p, rfl, ⟨_, (same_new hr' _).seq hS⟩, ?_⟩
  refine for_list (xs := bs.map V.int) (fun i σ H' => (∃ k, σ = [some (.ref p), some (.ref r), k]) ∧ Same H H' ∧ H' r = some (.lst ((aheads bs i).map V.int))) ?_ ?_ ?_ ?_
  · exact ⟨⟨none, rfl⟩, same_new hr' _, upd_same⟩
  · rintro i σ H' _ ⟨_, sm, _⟩
    exact sm.seq hS
  · rintro i x σ H' hx ⟨⟨k, rfl⟩, sm, hr1⟩
    obtain ⟨b, hb, rfl⟩ := int_at hx
    have hi := (List.getElem?_eq_some_iff.mp hb).1
    have hla : atI ((aheads bs i).map V.int) (-1) = some (.int (onesTo bs i)) := by
      rw [aheads_last, List.map_append]
      exact atI_last _ _
    refine ⟨_, rfl, .inl ⟨rfl, _, SqL.of hr1⟩, _, rfl, _, rfl, r, _, _, _, rfl, rfl, SqL.of hr1, hla, _, rfl, b, 32, rfl, by decide, by decide, fun H2 sm2 => ⟨_, _, rfl, rfl, r, _, _, rfl, rfl, sm2 _ _ hr1, ?_, ⟨_, rfl⟩, same_set (sm.trans sm2) hr' _, ?_⟩⟩
    · rw [List.length_map, aheads_length]
      exact small (by omega)
    · rw [upd_same, aheads_succ, List.map_append, onesTo_succ hb]
      rfl
  · rintro σ H' ⟨⟨k, rfl⟩, sm, hr1⟩
    rw [List.length_map] at hr1
    exact ⟨_, rfl, r, _, rfl, .inl ⟨SqL.of hr1, fun l hl => q l _ (sm.free hl) (sm.trans (same_new hl _)) upd_same⟩⟩

def sp_nets_of : Sp := fun vs H Q _ => ∃ (b n : Int), vs = [.int b, .int n] ∧ 0 ≤ n ∧ n ≤ 32 ∧ ∀ r H', H r = none → Same H H' → H' r = some (.lst ((nets b n.toNat).map V.int)) → Q (.ref r) H'
theorem ok_nets_of (T : Tx K mg a) : FnOk P w K mg base CX0 3 a.f_nets_of a.fd_nets_of ["block", "upto"] sp_nets_of := by
  refine T.D_nets_of.F.ok sc_nets_of (fun vs H Q E h => ?_) (fun cdv A outer s H vs Q E hr h => ?_)
  · obtain ⟨b, n, rfl, _⟩ := h
    rfl
  obtain ⟨b, n, rfl, h0, h1, q⟩ := h
  refine ⟨_, (pss_cons (ps_set (i := 2) sc_nets_of.nd rfl (Or.inl rfl) (pe_lst pa_nil))
    (pss_cons (ps_set (i := 3) sc_nets_of.nd rfl (Or.inl rfl) pe_int)
    (pss_cons (ps_for PassesOwn.never rfl (pi_list (pe_call ((ok_bits_of T).mono (by decide)) hr rfl T.D_bits_of.m T.D_bits_of.F.kp T.D_bits_of.b .nil pass0 (pa_cons (pv 0) (pa_cons (pv 1) pa_nil)))) (pg_name (i := 4) sc_nets_of.nd rfl (Or.inl rfl)) (pss_cons (ps_set (i := 3) sc_nets_of.nd rfl (Or.inl rfl) (pe_op op_sub (pe_op op_add (pv 3) (pe_op op_mul pe_int (pv 4))) pe_int))
    (pss_one (ps_expr (pe_bm PySem.F.plainAttrs_list PySem.F.slot_list_append PySem.F.type_list_append mt_append (pv 2) (pa_cons (pv 3) pa_nil))))))
    (pss_one (ps_ret (pv 2)))))), ?_⟩
  refine ⟨(by show 0 ≤ sizeLine; decide), fun r hr' => ?_⟩
  refine ⟨_, rfl, _, rfl, b, n, rfl, h0, h1, fun p hp => ⟨p, rfl, ⟨_, SqL.of upd_same⟩, ?_⟩⟩
  have ne : r ≠ p := ne_of_none upd_same hp
  refine for_list (xs := (bits b n.toNat).map V.int) (fun i σ H' => (∃ k, σ = [some (.int b), some (.int n), some (.ref r), some (.int (net b i)), k]) ∧ Same H H' ∧ H' r = some (.lst ((nets b i).map V.int)) ∧ H' p = some (.lst ((bits b n.toNat).map V.int))) ?_ ?_ ?_ ?_
  · refine ⟨⟨none, by rw [net_zero]; rfl⟩, (same_new hr' _).trans (same_new hp _), ?_, upd_same⟩
    rw [upd_ne ne, upd_same]
    rfl
  · rintro i σ H' _ ⟨_, _, _, hp'⟩
    exact SqL.of hp'
  · rintro i x σ H' hx ⟨⟨k, rfl⟩, sm, hr1, hp1⟩
    obtain ⟨c, hc, rfl⟩ := int_at hx
    have hi : i < n.toNat := by
      have := (List.getElem?_eq_some_iff.mp hc).1
      rw [bits_length] at this
      exact this
    have ec : c = bit b i := by
      rw [bits_get hi] at hc
      exact (Option.some.inj hc).symm
    subst ec
    refine ⟨_, rfl, _, rfl, _, _, rfl, rfl, .inl ⟨by decide, by decide⟩, _, _, rfl, rfl, _, _, rfl, rfl, ?_⟩
    refine ⟨_, rfl, .inl ⟨rfl, _, SqL.of hr1⟩, _, rfl, r, _, _, rfl, rfl, hr1, ?_, ?_⟩
    · rw [List.length_map, nets_length]
      exact small (by omega)
    · refine ⟨⟨some (.int (bit b i)), by rw [net_succ]; rfl⟩, same_set sm hr' _, ?_, ?_⟩
      · rw [upd_same, nets_succ, net_succ, List.map_append]
        rfl
      · rw [upd_ne (Ne.symm ne)]
        exact hp1
  · rintro σ H' ⟨⟨k, rfl⟩, sm, hr1, hp1⟩
    rw [List.length_map, bits_length] at hr1
    exact ⟨_, rfl, q r H' hr' sm hr1⟩

def sp_low_in : Sp := fun vs H Q _ => ∃ (b n : Int), vs = [.int b, .int n] ∧ 1 ≤ n ∧ n ≤ 32 ∧ ∀ M H', IsMin M (nets b n.toNat) → Same H H' → Q (.int M) H'
theorem ok_low_in (T : Tx K mg a) : FnOk P w K mg base CX0 4 a.f_low_in a.fd_low_in ["block", "upto"] sp_low_in := by
  refine T.D_low_in.F.ok sc_low_in (fun vs H Q E h => ?_) (fun cdv A outer s H vs Q E hr h => ?_)
  · obtain ⟨b, n, rfl, _⟩ := h
    rfl
  obtain ⟨b, n, rfl, h0, h1, q⟩ := h
  refine ⟨_, (pss_one (ps_ret (pe_minD rfl rfl T.b_min (pa_cons (pe_call ((ok_nets_of T).mono (by decide)) hr rfl T.D_nets_of.m T.D_nets_of.F.kp T.D_nets_of.b .nil pass0 (pa_cons (pv 0) (pa_cons (pv 1) pa_nil))) pa_nil) pe_int Tw.bt_min))), ?_⟩
  refine ⟨_, rfl, _, rfl, b, n, rfl, by omega, h1, fun p H' hp sm h' => ⟨p, _, rfl, SqL.of h', ?_, fun M hM => q M H' hM sm⟩⟩
  rw [nets_length]
  omega

def sp_size_of : Sp := fun vs H Q _ => ∃ n : Nat, vs = [.int (n : Int)] ∧ n ≤ 100000 ∧ ∀ S, IsSz n S → Q (.int (S : Int)) H
theorem ok_size_of (T : Tx K mg a) : FnOk P w K mg base CX0 1 a.f_size_of a.fd_size_of ["many"] sp_size_of := by
  refine T.D_size_of.F.ok sc_size_of (fun vs H Q E h => ?_) (fun cdv A outer s H vs Q E hr h => ?_)
  · obtain ⟨n, rfl, _⟩ := h
    rfl
  obtain ⟨n, rfl, hn, q⟩ := h
  refine ⟨_, (pss_cons (ps_set (i := 1) sc_size_of.nd rfl (Or.inl rfl) pe_int)
    (pss_cons (ps_while PassesOwn.never (pt_cmpR op_lt (pv 1) (pv 0) (nomark _)) (pss_one (ps_set (i := 1) sc_size_of.nd rfl (Or.inl rfl) (pe_op op_mul pe_int (pv 1)))))
    (pss_one (ps_ret (pv 1))))), ?_⟩
  refine ⟨fun m σ H' => ∃ h : Nat, σ = [some (.int (n : Int)), some (.int ((2 ^ h : Nat) : Int))] ∧ H' = H ∧ m = n - 2 ^ h ∧ ∀ j, j < h → 2 ^ j < n, ⟨_, 0, rfl, rfl, rfl, fun j hj => absurd hj (Nat.not_lt_zero _)⟩, ?_⟩
  rintro m σ H' ⟨h, rfl, rfl, rfl, hj⟩
  refine ⟨_, rfl, _, rfl, _, _, rfl, rfl, _, rfl, ite2 (fun c => ?_) fun c => ?_⟩
  · have c : ((2 ^ h : Nat) : Int) < (n : Int) := of_decide_eq_true c
    have hp : 0 < 2 ^ h := Nat.two_pow_pos h
    refine ⟨_, fun σ' H2 z => z, _, rfl, _, _, rfl, rfl, .inl ⟨by decide, by decide⟩, n - 2 ^ (h + 1), by rw [Nat.pow_succ]; omega, h + 1, ?_, rfl, rfl, fun j hj2 => ?_⟩
    · have e : (2 : Int) * ((2 ^ h : Nat) : Int) = ((2 ^ (h + 1) : Nat) : Int) := by rw [Nat.pow_succ]; omega
      rw [← e]
      rfl
    · rcases Nat.lt_or_ge j h with l | l
      · exact hj j l
      · have : j = h := by omega
        subst this
        omega
  · have c : ¬ ((2 ^ h : Nat) : Int) < (n : Int) := fun z => c (decide_eq_true z)
    exact ⟨_, rfl, q (2 ^ h) ⟨h, rfl, by omega, hj⟩⟩

def sp_lesser : Sp := fun vs H Q _ => ∃ x y : V, vs = [x, y] ∧ NI x ∧ NI y ∧ Q (lessV x y) H
theorem ok_lesser_of (T : Tx K mg a) : FnOk P w K mg base CX0 1 a.f_lesser_of a.fd_lesser_of ["one", "other"] sp_lesser := by
  refine T.D_lesser_of.F.ok sc_lesser_of (fun vs H Q E h => ?_) (fun cdv A outer s H vs Q E hr h => ?_)
  · obtain ⟨x, y, rfl, _⟩ := h
    rfl
  obtain ⟨x, y, rfl, hx, hy, q⟩ := h
  refine ⟨_, (pss_cons (ps_if (pt_cmp (pc_isN (pv 0))) (pss_one (ps_ret (pv 1))) pss_nil)
    (pss_cons (ps_if (pt_cmp (pc_isN (pv 1))) (pss_one (ps_ret (pv 0))) pss_nil)
    (pss_one (ps_ret (pe_callB (call_min2 rfl) rfl T.b_min Tw.bt_min (pa_cons (pv 0) (pa_cons (pv 1) pa_nil))))))), ?_⟩
  rcases hx with rfl | ⟨i, rfl⟩
  · rw [lessV_non] at q
    exact ⟨_, rfl, _, rfl, iteT ⟨_, rfl, q⟩⟩
  refine ⟨_, rfl, _, rfl, iteF ?_⟩
  rcases hy with rfl | ⟨j, rfl⟩
  · exact ⟨_, rfl, _, rfl, iteT ⟨_, rfl, q⟩⟩
  exact ⟨_, rfl, _, rfl, iteF ⟨_, rfl, _, rfl, i, j, rfl, q⟩⟩

def sp_heap_of (K : PySem.W.Frag) : Sp := fun vs H Q E => ∃ (p : Addr) (ns : List Int), vs = [.ref p] ∧ SqL K H p (ns.map V.int) ∧
  ns.length ≤ 4096 ∧ ∀ S r H' xs, IsSz ns.length S → H r = none → Same H H' → H' r = some (.lst xs) → HInv ns S 1 xs → Q (.ref r) H'
theorem ok_heap_of (T : Tx K mg a) : FnOk P w K mg base CX0 2 a.f_heap_of a.fd_heap_of ["numbers"] (sp_heap_of K) := by
  refine T.D_heap_of.F.ok sc_heap_of (fun vs H Q E h => ?_) (fun cdv A outer s H vs Q E hr h => ?_)
  · obtain ⟨p, ns, rfl, _⟩ := h
    rfl
  obtain ⟨p, ns, rfl, hS, hl, q⟩ := h
  refine ⟨_, (pss_cons (ps_if (pt_cmpR op_gt (pe_callB call_len_seq rfl T.b_len Tw.bt_len (pa_cons (pv 0) pa_nil)) (pe_glob (v := .int 4096) rfl T.c_MOST_NUMBERS ⟨_, rfl⟩) (nomark _)) (pss_one ps_never) pss_nil)
    (pss_cons (ps_set (i := 1) sc_heap_of.nd rfl (Or.inl rfl) (pe_call ((ok_size_of T).mono (by decide)) hr rfl T.D_size_of.m T.D_size_of.F.kp T.D_size_of.b .nil pass0 (pa_cons (pe_callB call_len_seq rfl T.b_len Tw.bt_len (pa_cons (pv 0) pa_nil)) pa_nil)))
    (pss_cons (ps_set (i := 2) sc_heap_of.nd rfl (Or.inl rfl) (pe_op op_cat (pe_op op_cat (pe_op op_rep (pe_lst (pa_cons pe_non pa_nil)) (pv 1)) (pe_callTy call_list_of rfl T.b_list Tw.bt_list (pa_cons (pv 0) pa_nil))) (pe_op op_rep (pe_lst (pa_cons pe_non pa_nil)) (pe_op op_sub (pv 1) (pe_callB call_len_seq rfl T.b_len Tw.bt_len (pa_cons (pv 0) pa_nil))))))
    (pss_cons (ps_for PassesOwn.never rfl (pi_rangeDn rfl T.b_range (pa_cons (pe_op op_sub (pv 1) pe_int) (pa_cons pe_int (pa_cons (pe_un un_neg pe_int) pa_nil)))) (pg_name (i := 3) sc_heap_of.nd rfl (Or.inl rfl)) (pss_one (ps_asg (pe_call ((ok_lesser_of T).mono (by decide)) hr rfl T.D_lesser_of.m T.D_lesser_of.F.kp T.D_lesser_of.b .nil pass0 (pa_cons (pe_ix ix_list (pv 2) (pe_op op_mul pe_int (pv 3)) (fun _ _ => rfl)) (pa_cons (pe_ix ix_list (pv 2) (pe_op op_add (pe_op op_mul pe_int (pv 3)) pe_int) (fun _ _ => rfl)) pa_nil))) (pg_sub (pv 2) (pv 3) set_list))))
    (pss_one (ps_ret (pv 2))))))), ?_⟩
  have ern : (ns.map V.int).length = ns.length := List.length_map ..
  refine ⟨_, rfl, p, _, rfl, .inl hS, _, _, rfl, rfl, _, rfl, ite2 (fun z => ?_) fun _ => ?_⟩
  · have z : (4096 : Int) < ((ns.map V.int).length : Int) := of_decide_eq_true z
    omega
  refine ⟨_, rfl, p, _, rfl, .inl hS, ns.length, ?_, by omega, fun S hSz => ?_⟩
  · rw [ern]
    rfl
  have hS0 := hSz.pos
  have hS4 := hSz.le hl
  have hlS : ns.length ≤ S := by
    obtain ⟨_, _, z, _⟩ := hSz
    exact z
  refine rep_way (t := tCons (tC .non) tNil) (σ := [some (.ref p), some (.int (S : Int)), none, none]) (i := 1) (k := (S : Int)) (xs := [.non]) (fun Q' q => q) rfl (by omega) (by decide) (by omega) fun p1 H1 hp1 s1 x1 => ?_
  refine ⟨_, rfl, p, _, rfl, .inl (s1.seq hS), fun l2 hl2 => ?_⟩
  have s2 := same_new hl2 (.lst (ns.map V.int))
  have e1 : (List.replicate (S : Int).toNat [V.non]).flatten = List.replicate S V.non := by
    rw [Int.toNat_natCast]
    simp
  rw [e1] at x1
  refine ⟨p1, l2, _, _, rfl, rfl, s2 _ _ x1, upd_same, ?_, fun p3 hp3 => ?_⟩
  · rw [ern, List.length_replicate, sizeLine_eq]
    omega
  have s3 := same_new hp3 (.lst (List.replicate S V.non ++ ns.map V.int))
  refine ⟨(by show 1 ≤ sizeLine; decide), fun l4 hl4 => ?_⟩
  have s4 := same_new hl4 (.lst [.non])
  have s14 := s1.trans (s2.trans (s3.trans s4))
  refine ⟨_, rfl, _, rfl, p, _, rfl, .inl (s14.seq hS), _, _, rfl, rfl, l4, ((S - ns.length : Nat) : Int), [.non], rfl, ?_, upd_same, by omega, by omega, ?_, fun p5 hp5 => ?_⟩
  · show V.int ((S : Int) - ((ns.map V.int).length : Int)) = _
    rw [ern]
    exact congrArg V.int (by omega)
  · rw [sizeLine_eq]
    show 1 * _ ≤ _
    omega
  have e5 : (List.replicate ((S - ns.length : Nat) : Int).toNat [V.non]).flatten = List.replicate (S - ns.length) V.non := by
    rw [Int.toNat_natCast]
    simp
  rw [e5]
  have s5 := same_new hp5 (.lst (List.replicate (S - ns.length) V.non))
  refine ⟨p3, p5, _, _, rfl, rfl, s5 _ _ (s4 _ _ upd_same), upd_same, ?_, fun r hr' => ?_⟩
  · rw [List.length_append, ern, List.length_replicate, List.length_replicate, sizeLine_eq]
    omega
  have s15 := s14.trans s5
  have hr0 := s15.free hr'
  have s6 := s15.trans (same_new hr' (.lst (List.replicate S V.non ++ ns.map V.int ++ List.replicate (S - ns.length) V.non)))
  refine ⟨_, rfl, _, _, rfl, rfl, _, rfl, S - 1, 0, ?_, by omega, by omega, ?_⟩
  · rw [show ((S - 1 : Nat) : Int) = (S : Int) - 1 from by omega]
    rfl
  refine for_step (n := S - 1 - 0) (fun i σ H' => (∃ k3, σ = [some (.ref p), some (.int (S : Int)), some (.ref r), k3]) ∧ Same H H' ∧ ∃ xs, H' r = some (.lst xs) ∧ HInv ns S (S - i) xs) ⟨⟨none, rfl⟩, s6, _, upd_same, HInv.start hS0 hlS⟩ ?_ ?_
  · rintro i σ H' hi ⟨⟨k3, rfl⟩, sm, xs, hr1, hv⟩
    obtain ⟨k, rfl⟩ : ∃ k, S = k + i + 1 := ⟨S - i - 1, by omega⟩
    have ek : ((k + i + 1 - 1 : Nat) : Int) + (i : Int) * (-1) = (k : Int) := by omega
    rw [show k + i + 1 - i = k + 1 from by omega] at hv
    have hlen := hv.len
    have hx : xs[2 * k]? = some xs[2 * k] := List.getElem?_eq_getElem (by omega)
    have hy : xs[2 * k + 1]? = some xs[2 * k + 1] := List.getElem?_eq_getElem (by omega)
    have ha : atI xs (2 * (((k + i + 1 - 1 : Nat) : Int) + (i : Int) * (-1))) = some xs[2 * k] := by
      rw [ek, show 2 * (k : Int) = ((2 * k : Nat) : Int) from by omega]
      exact atI_V hx
    have hb : atI xs (2 * (((k + i + 1 - 1 : Nat) : Int) + (i : Int) * (-1)) + 1) = some xs[2 * k + 1] := by
      rw [ek, show 2 * (k : Int) + 1 = ((2 * k + 1 : Nat) : Int) from by omega]
      exact atI_V hy
    have hix : ixN xs.length (((k + i + 1 - 1 : Nat) : Int) + (i : Int) * (-1)) = some k := by
      rw [ek]
      exact ixN_nat (by omega)
    refine ⟨_, rfl, _, rfl, _, _, rfl, rfl, .inl ⟨by decide, by decide⟩, r, _, _, _, rfl, rfl, SqL.of hr1, ha, ?_⟩
    refine ⟨_, rfl, _, rfl, _, _, rfl, rfl, .inl ⟨by decide, by decide⟩, _, _, rfl, rfl, r, _, _, _, rfl, rfl, SqL.of hr1, hb, ?_⟩
    refine ⟨_, _, rfl, hv.ni _ (List.getElem_mem _), hv.ni _ (List.getElem_mem _), ?_⟩
    refine ⟨_, rfl, _, rfl, r, _, _, k, rfl, rfl, hr1, hix, ⟨_, rfl⟩, same_set sm hr0 _, _, upd_same, ?_⟩
    rw [show k + i + 1 - (i + 1) = k from by omega]
    exact hv.step (by omega) (by omega) hx hy
  · rintro σ H' ⟨⟨k3, rfl⟩, sm, xs, hr1, hv⟩
    rw [show S - (S - 1 - 0) = 1 from by omega] at hv
    exact ⟨_, rfl, q S r H' xs hSz hr0 sm hr1 hv⟩

def sp_is_tree (K : PySem.W.Frag) : Sp := fun vs H Q _ => ∃ (p : Addr) (ns : List Int), vs = [.ref p] ∧ SqL K H p (ns.map V.int) ∧ ∀ b H', (b = true ↔ Tree ns) → Same H H' → Q (.bl b) H'
theorem ok_is_tree (T : Tx K mg a) : FnOk P w K mg base CX0 1 a.f_is_tree a.fd_is_tree ["bits"] (sp_is_tree K) := by
  refine T.D_is_tree.F.ok sc_is_tree (fun vs H Q E h => ?_) (fun cdv A outer s H vs Q E hr h => ?_)
  · obtain ⟨p, ns, rfl, _⟩ := h
    rfl
  obtain ⟨p, ns, rfl, hS, q⟩ := h
  refine ⟨_, (pss_cons (ps_set (i := 1) sc_is_tree.nd rfl (Or.inl rfl) pe_int)
    (pss_cons (ps_for PassesOwn.never rfl (pi_enum rfl T.b_enumerate (pa_cons (pv 0) pa_nil)) (pg_tup rfl (pgs_cons (pg_name (i := 2) sc_is_tree.nd rfl (Or.inl rfl)) (pgs_cons (pg_name (i := 3) sc_is_tree.nd rfl (Or.inl rfl)) pgs_nil))) (pss_cons (ps_if (PW.pt (pw_and (pt_cmpR op_gt (pv 2) pe_int (nomark _)) (pw_and1 (pt_cmpR op_le (pv 1) pe_int (nomark _))))) (pss_one (ps_ret pe_bl)) pss_nil)
    (pss_one (ps_set (i := 1) sc_is_tree.nd rfl (Or.inl rfl) (pe_op op_sub (pe_op op_add (pv 1) (pe_op op_mul pe_int (pv 3))) pe_int)))))
    (pss_one (ps_ret (pe_and (pe_cmpR op_ge (pe_callB call_len_seq rfl T.b_len Tw.bt_len (pa_cons (pv 0) pa_nil)) pe_int (nomark _)) (pe_one (pe_cmpR op_eq (pv 1) pe_int (nomark _)))))))), ?_⟩
  refine ⟨_, rfl, p, _, rfl, hS, ?_⟩
  refine for_enum (xs := ns.map V.int) (fun i σ H' => (∃ k2 k3, σ = [some (.ref p), some (.int (ht ns i)), k2, k3]) ∧ Same H H' ∧ ∀ k, 0 < k → k < i → 0 < ht ns k) ⟨⟨none, none, by rw [ht_zero]; rfl⟩, Same.refl _, fun k _ h => absurd h (Nat.not_lt_zero _)⟩ ?_ ?_ ?_
  · rintro i σ H' _ ⟨_, sm, _⟩
    exact sm.seq hS
  · rintro i x σ H' pt hx ⟨⟨k2, k3, rfl⟩, sm, up⟩ hpt
    obtain ⟨b, hb, rfl⟩ := int_at hx
    have hi := (List.getElem?_eq_some_iff.mp hb).1
    have sm' := sm.trans (same_new hpt (.tup [.int (i : Int), .int b]))
    refine ⟨pt, _, rfl, SqT.of upd_same, rfl, _, _, rfl, _, _, rfl, rfl, ?_⟩
    have go : (0 < i → 0 < ht ns i) → (∃ k2 k3, [some (V.ref p), some (.int (ht ns i + 2 * b - 1)), some (.int (i : Int)), some (.int b)] = [some (.ref p), some (.int (ht ns (i + 1))), k2, k3]) ∧ Same H (upd H' pt (.tup [.int (i : Int), .int b])) ∧ ∀ k, 0 < k → k < i + 1 → 0 < ht ns k := fun h =>
      ⟨⟨_, _, by rw [ht_succ hb]⟩, sm', fun k k0 k1 => by
        rcases Nat.lt_or_ge k i with l | l
        · exact up k k0 l
        · have : k = i := by omega
          subst this
          exact h k0⟩
    refine ⟨_, rfl, _, _, rfl, rfl, _, rfl, ite2 (fun c1 => ?_) fun c1 => ?_⟩
    · have c1 : (0 : Int) < (i : Int) := of_decide_eq_true c1
      refine ⟨_, rfl, _, _, rfl, rfl, _, rfl, ite2 (fun c2 => ?_) fun c2 => ?_⟩
      · have c2 : ht ns i ≤ 0 := of_decide_eq_true c2
        exact q false _ ⟨fun z => absurd z Bool.false_ne_true, fun t => by have := t.2.2 i (by omega) hi; omega⟩ sm'
      · have c2 : ¬ ht ns i ≤ 0 := fun z => c2 (decide_eq_true z)
        exact ⟨_, rfl, _, rfl, _, _, rfl, rfl, .inl ⟨by decide, by decide⟩, _, _, rfl, rfl, _, _, rfl, rfl, go fun _ => by omega⟩
    · have c1 : ¬ (0 : Int) < (i : Int) := fun z => c1 (decide_eq_true z)
      refine iteF ?_
      exact ⟨_, rfl, _, rfl, _, _, rfl, rfl, .inl ⟨by decide, by decide⟩, _, _, rfl, rfl, _, _, rfl, rfl, go fun z => by omega⟩
  · rintro σ H' ⟨⟨k2, k3, rfl⟩, sm, up⟩
    rw [List.length_map] at up ⊢
    refine ⟨_, rfl, p, _, rfl, .inl (sm.seq hS), _, _, rfl, rfl, _, rfl, ite2 (fun c1 => ?_) fun c1 => ?_⟩
    · have c1 : (2 : Int) ≤ ((ns.map V.int).length : Int) := of_decide_eq_true c1
      rw [List.length_map] at c1
      refine ⟨_, rfl, rfl, ?_⟩
      refine q _ H' ?_ sm
      rw [decide_eq_true_iff]
      exact ⟨fun z => ⟨by omega, V.int.inj z, up⟩, fun t => congrArg V.int t.2.1⟩
    · have c1 : ¬ (2 : Int) ≤ ((ns.map V.int).length : Int) := fun z => c1 (decide_eq_true z)
      rw [List.length_map] at c1
      exact q false H' ⟨fun z => absurd z Bool.false_ne_true, fun t => by have := t.1; omega⟩ sm

structure Tab (H : Hp) (t ah : Addr) (ns : List Int) (rest : List V) : Prop where
  tup : H t = some (.tup (.int (ns.length : Int) :: .ref ah :: rest))
  ahs : H ah = some (.tup ((ahd ns (many ns.length)).map V.int))
  few : rest.length ≤ 1
theorem Tab.same {H H' : Hp} {t ah : Addr} {ns : List Int} {rest : List V} (h : Tab H t ah ns rest) (s : Same H H') : Tab H' t ah ns rest := ⟨s _ _ h.tup, s _ _ h.ahs, h.few⟩
theorem tab_at0 (x y : V) : ∀ rest : List V, rest.length ≤ 1 → atI (x :: y :: rest) 0 = some x
  | [], _ => rfl
  | [_], _ => rfl
  | _ :: _ :: _, h => absurd h (by simp)
theorem tab_at1 (x y : V) : ∀ rest : List V, rest.length ≤ 1 → atI (x :: y :: rest) 1 = some y
  | [], _ => rfl
  | [_], _ => rfl
  | _ :: _ :: _, h => absurd h (by simp)
theorem ahd_at {ns : List Int} {n j : Nat} (h : j ≤ n) : atI ((ahd ns n).map V.int) (j : Int) = some (.int (ns.take (32 * j)).sum) := atI_int (ahd_get h)
def sp_kept_row (K : PySem.W.Frag) : Sp := fun vs H Q _ => ∃ (p : Addr) (ns : List Int), vs = [.ref p] ∧ SqL K H p (ns.map V.int) ∧ ns.length ≤ 4096 ∧ IsBits ns ∧
  ∀ r b t ah H', H b = none → Same H H' → H' r = some (.tup [.ref t, .ref b]) → Tab H' t ah ns [] → H' b = some (.lst ((packs ns).map V.int)) → Q (.ref r) H'
theorem ok_kept_row (T : Tx K mg a) : FnOk P w K mg base CX0 5 a.f_kept_row a.fd_kept_row ["bits"] (sp_kept_row K) := by
  refine T.D_kept_row.F.ok sc_kept_row (fun vs H Q E h => ?_) (fun cdv A outer s H vs Q E hr h => ?_)
  · obtain ⟨p, ns, rfl, _⟩ := h
    rfl
  obtain ⟨p, ns, rfl, hS, hl, hb, q⟩ := h
  refine ⟨_, (pss_cons (ps_set (i := 1) sc_kept_row.nd rfl (Or.inl rfl) (pe_call ((ok_packed T).mono (by decide)) hr rfl T.D_packed.m T.D_packed.F.kp T.D_packed.b .nil pass0 (pa_cons (pv 0) pa_nil)))
    (pss_one (ps_ret (pe_tup (pa_cons (pe_tup (pa_cons (pe_callB call_len_seq rfl T.b_len Tw.bt_len (pa_cons (pv 0) pa_nil)) (pa_cons (pe_call ((ok_ahead_of T).mono (by decide)) hr rfl T.D_ahead_of.m T.D_ahead_of.F.kp T.D_ahead_of.b .nil pass0 (pa_cons (pv 1) pa_nil)) pa_nil))) (pa_cons (pv 1) pa_nil)))))), ?_⟩
  refine ⟨_, rfl, p, ns, rfl, hS, hl, hb, fun b H1 hb0 sm1 h1 => ?_⟩
  refine ⟨_, rfl, p, _, rfl, .inl (sm1.seq hS), _, rfl, b, packs ns, rfl, SqL.of h1, ?_, fun ah H2 hah sm2 h2 => ?_⟩
  · rw [packs_length]
    unfold many
    omega
  rw [aheads_packs hb] at h2
  have ern : (ns.map V.int).length = ns.length := List.length_map ..
  rw [ern]
  refine ⟨(by show 2 ≤ sizeLine; decide), fun t ht => ⟨_, rfl, (by show 2 ≤ sizeLine; decide), fun r hr' => ?_⟩⟩
  have s3 := same_new ht (.tup [.int (ns.length : Int), .ref ah])
  have s4 := same_new hr' (.tup [.ref t, .ref b])
  exact q r b t ah _ hb0 (sm1.trans (sm2.trans (s3.trans s4))) upd_same ⟨s4 _ _ upd_same, s4 _ _ (s3 _ _ h2), by decide⟩ (s4 _ _ (s3 _ _ (sm2 _ _ h1)))

def sp_check_brackets (K : PySem.W.Frag) : Sp := fun vs H Q _ => ∃ (p : Addr) (ns : List Int), vs = [.ref p] ∧ SqL K H p (ns.map V.int) ∧ ns.length ≤ 4096 ∧ IsBits ns ∧ Tree ns ∧ ∀ H', Same H H' → Q .non H'
theorem ok_check_brackets (T : Tx K mg a) : FnOk P w K mg base CX0 2 a.f_check_brackets a.fd_check_brackets ["bits"] (sp_check_brackets K) := by
  refine T.D_check_brackets.F.ok sc_check_brackets (fun vs H Q E h => ?_) (fun cdv A outer s H vs Q E hr h => ?_)
  · obtain ⟨p, ns, rfl, _⟩ := h
    rfl
  obtain ⟨p, ns, rfl, hS, hl, hb, ht, q⟩ := h
  refine ⟨_, (pss_cons (ps_expr (pe_call ((ok_check_row T).mono (by decide)) hr rfl T.D_check_row.m T.D_check_row.F.kp T.D_check_row.b .nil pass0 (pa_cons (pv 0) pa_nil)))
    (pss_one (ps_if (pt_not (pt_val (pe_call ((ok_is_tree T).mono (by decide)) hr rfl T.D_is_tree.m T.D_is_tree.F.kp T.D_is_tree.b .nil pass0 (pa_cons (pv 0) pa_nil)))) (pss_one ps_never) pss_nil))), ?_⟩
  refine ⟨_, rfl, p, ns, rfl, hS, hl, hb, ?_⟩
  refine ⟨_, rfl, p, ns, rfl, hS, fun b H' hbt sm => ?_⟩
  have : b = true := hbt.mpr ht
  subst this
  exact ⟨true, rfl, iteF (q H' sm)⟩

def sp_base_of : Sp := fun vs H Q _ => ∃ (t ah : Addr) (ns : List Int) (rest : List V) (j : Nat), vs = [.ref t, .int (j : Int)] ∧ Tab H t ah ns rest ∧ j ≤ many ns.length ∧ Q (.int (ht ns (32 * j))) H
theorem ok_base_of (T : Tx K mg a) : FnOk P w K mg base CX0 1 a.f_base_of a.fd_base_of ["tables", "number"] sp_base_of := by
  refine T.D_base_of.F.ok sc_base_of (fun vs H Q E h => ?_) (fun cdv A outer s H vs Q E hr h => ?_)
  · obtain ⟨t, ah, ns, rest, j, rfl, _⟩ := h
    rfl
  obtain ⟨t, ah, ns, rest, j, rfl, hT, hj, q⟩ := h
  refine ⟨_, (pss_one (ps_ret (pe_op op_sub (pe_op op_mul pe_int (pe_ix ix_tup (pe_ix ix_tup (pv 0) pe_int (fun _ _ => rfl)) (pv 1) (fun _ _ => rfl))) (pe_op op_mul (pe_glob (v := .int 32) rfl T.c_BLOCK_BITS ⟨_, rfl⟩) (pv 1))))), ?_⟩
  refine ⟨_, rfl, t, _, _, _, rfl, rfl, SqT.of hT.tup, tab_at1 _ _ _ hT.few, _, rfl, ah, _, _, _, rfl, rfl, SqT.of hT.ahs, ahd_at hj, _, _, rfl, rfl, .inl ⟨by decide, by decide⟩, _, rfl, _, _, rfl, rfl, .inl ⟨by decide, by decide⟩, _, _, rfl, rfl, ?_⟩
  unfold ht at q
  rw [show ((32 * j : Nat) : Int) = 32 * (j : Int) from by omega] at q
  exact q

def sp_end_within : Sp := fun vs H Q _ => ∃ (j n : Nat), vs = [.int (j : Int), .int (n : Int)] ∧ 32 * j ≤ n ∧ Q (.int (wide n j : Nat)) H
theorem ok_end_within (T : Tx K mg a) : FnOk P w K mg base CX0 1 a.f_end_within a.fd_end_within ["number", "upto"] sp_end_within := by
  refine T.D_end_within.F.ok sc_end_within (fun vs H Q E h => ?_) (fun cdv A outer s H vs Q E hr h => ?_)
  · obtain ⟨j, n, rfl, _⟩ := h
    rfl
  obtain ⟨j, n, rfl, hj, q⟩ := h
  refine ⟨_, (pss_one (ps_ret (pe_callB (call_min2 rfl) rfl T.b_min Tw.bt_min (pa_cons (pe_op op_sub (pv 1) (pe_op op_mul (pe_glob (v := .int 32) rfl T.c_BLOCK_BITS ⟨_, rfl⟩) (pv 0))) (pa_cons (pe_glob (v := .int 32) rfl T.c_BLOCK_BITS ⟨_, rfl⟩) pa_nil))))), ?_⟩
  refine ⟨_, rfl, _, rfl, _, _, rfl, rfl, .inl ⟨by decide, by decide⟩, _, _, rfl, rfl, _, _, rfl, ?_⟩
  have e : (if (32 : Int) < (n : Int) - 32 * (j : Int) then (32 : Int) else (n : Int) - 32 * (j : Int)) = ((wide n j : Nat) : Int) := by
    unfold wide
    split <;> omega
  rw [← e] at q
  exact q

def sp_low_of : Sp := fun vs H Q _ => ∃ (t ah : Addr) (ns : List Int) (rest : List V) (j : Nat), vs = [.ref t, .int (j : Int), .int (blkAt ns j)] ∧ Tab H t ah ns rest ∧ IsBits ns ∧ 32 * j < ns.length ∧ ∀ m H', LowAt ns j m → Same H H' → Q (.int m) H'
theorem ok_low_of (T : Tx K mg a) : FnOk P w K mg base CX0 5 a.f_low_of a.fd_low_of ["tables", "number", "block"] sp_low_of := by
  refine T.D_low_of.F.ok sc_low_of (fun vs H Q E h => ?_) (fun cdv A outer s H vs Q E hr h => ?_)
  · obtain ⟨t, ah, ns, rest, j, rfl, _⟩ := h
    rfl
  obtain ⟨t, ah, ns, rest, j, rfl, hT, hb, hj, q⟩ := h
  refine ⟨_, (pss_one (ps_ret (pe_op op_add (pe_call ((ok_base_of T).mono (by decide)) hr rfl T.D_base_of.m T.D_base_of.F.kp T.D_base_of.b .nil pass0 (pa_cons (pv 0) (pa_cons (pv 1) pa_nil))) (pe_call ((ok_low_in T).mono (by decide)) hr rfl T.D_low_in.m T.D_low_in.F.kp T.D_low_in.b .nil pass0 (pa_cons (pv 2) (pa_cons (pe_call ((ok_end_within T).mono (by decide)) hr rfl T.D_end_within.m T.D_end_within.F.kp T.D_end_within.b .nil pass0 (pa_cons (pv 1) (pa_cons (pe_ix ix_tup (pv 0) pe_int (fun _ _ => rfl)) pa_nil))) pa_nil)))))), ?_⟩
  have hm : j ≤ many ns.length := by
    unfold many
    omega
  have hw : 1 ≤ wide ns.length j ∧ wide ns.length j ≤ 32 := by
    unfold wide
    omega
  refine ⟨_, rfl, _, rfl, t, ah, ns, rest, j, rfl, hT, hm, ?_⟩
  refine ⟨_, rfl, _, rfl, _, rfl, t, _, _, _, rfl, rfl, SqT.of hT.tup, tab_at0 _ _ _ hT.few, j, ns.length, rfl, by omega, ?_⟩
  refine ⟨blkAt ns j, ((wide ns.length j : Nat) : Int), rfl, by omega, by omega, fun M H' hM sm => ⟨_, _, rfl, rfl, ?_⟩⟩
  rw [Int.toNat_natCast] at hM
  exact q _ H' (LowAt.of hb hM.1 hM.2) sm

/-- the brackets of a tree, as kept -/
structure KB (H : Hp) (t ah nd bl : Addr) (ns lows : List Int) (S : Nat) (xs : List V) : Prop where
  tab : Tab H t ah ns [.ref nd]
  nds : H nd = some (.tup xs)
  bls : H bl = some (.lst ((packs ns).map V.int))
  low : Lows ns lows
  sz : IsSz lows.length S
  heap : HInv lows S 1 xs
def sp_kept_brackets (K : PySem.W.Frag) : Sp := fun vs H Q _ => ∃ (p : Addr) (ns : List Int), vs = [.ref p] ∧ SqL K H p (ns.map V.int) ∧ ns.length ≤ 4096 ∧ IsBits ns ∧ Tree ns ∧
  ∀ r t ah nd bl lows S xs H', H bl = none → H r = none → H t = none → Same H H' → H' r = some (.tup [.ref t, .ref bl]) → KB H' t ah nd bl ns lows S xs → Q (.ref r) H'
theorem ok_kept_brackets (T : Tx K mg a) : FnOk P w K mg base CX0 6 a.f_kept_brackets a.fd_kept_brackets ["bits"] (sp_kept_brackets K) := by
  refine T.D_kept_brackets.F.ok sc_kept_brackets (fun vs H Q E h => ?_) (fun cdv A outer s H vs Q E hr h => ?_)
  · obtain ⟨p, ns, rfl, _⟩ := h
    rfl
  obtain ⟨p, ns, rfl, hS, hl, hb, ht, q⟩ := h
  refine ⟨_, (pss_cons (ps_expr (pe_call ((ok_check_brackets T).mono (by decide)) hr rfl T.D_check_brackets.m T.D_check_brackets.F.kp T.D_check_brackets.b .nil pass0 (pa_cons (pv 0) pa_nil)))
    (pss_cons (ps_set (i := 1) sc_kept_brackets.nd rfl (Or.inl rfl) (pe_call ((ok_kept_row T).mono (by decide)) hr rfl T.D_kept_row.m T.D_kept_row.F.kp T.D_kept_row.b .nil pass0 (pa_cons (pv 0) pa_nil)))
    (pss_cons (ps_set (i := 2) sc_kept_brackets.nd rfl (Or.inr rfl) (pe_ix ix_tup (pv 1) pe_int (fun _ _ => rfl)))
    (pss_cons (ps_set (i := 3) sc_kept_brackets.nd rfl (Or.inl rfl) (pe_ix ix_tup (pv 1) pe_int (fun _ _ => rfl)))
    (pss_cons (ps_setComp2 (i := 4) sc_kept_brackets.nd rfl rfl rfl ⟨(CompOk.one (j := 2) rfl (Or.inl rfl) rfl rfl (Or.inl rfl)), rfl, by decide⟩ (pi_enum rfl T.b_enumerate (pa_cons (pv 3) pa_nil)) (fun _ _ _ _ => (pe_call ((ok_low_of T).mono (by decide)) hr rfl T.D_low_of.m T.D_low_of.F.kp T.D_low_of.b .nil pass0 (pa_cons (pv 2) (pa_cons (pv 0) (pa_cons (pv 1) pa_nil))))))
    (pss_one (ps_ret (pe_tup (pa_cons (pe_tup (pa_cons (pe_ix ix_tup (pv 2) pe_int (fun _ _ => rfl)) (pa_cons (pe_ix ix_tup (pv 2) pe_int (fun _ _ => rfl)) (pa_cons (pe_callTy call_tuple_of rfl T.b_tuple Tw.bt_tuple (pa_cons (pe_call ((ok_heap_of T).mono (by decide)) hr rfl T.D_heap_of.m T.D_heap_of.F.kp T.D_heap_of.b .nil pass0 (pa_cons (pv 4) pa_nil)) pa_nil)) pa_nil)))) (pa_cons (pv 3) pa_nil)))))))))), ?_⟩
  refine ⟨_, rfl, p, ns, rfl, hS, hl, hb, ht, fun H1 s1 => ?_⟩
  refine ⟨_, rfl, p, ns, rfl, s1.seq hS, hl, hb, fun r b t ah H2 hb0 s2 xr hT xb => ?_⟩
  refine ⟨_, rfl, r, _, _, _, rfl, rfl, SqT.of xr, rfl, ?_⟩
  refine ⟨_, rfl, r, _, _, _, rfl, rfl, SqT.of xr, rfl, ?_⟩
  have hpl := packs_length ns
  have hml : many ns.length ≤ 128 := by
    unfold many
    omega
  refine ⟨_, rfl, b, _, rfl, SqL.of xb, ?_⟩
  refine comp_enumS (LowAt ns) (SqL.of xb) (by rw [hpl, sizeLine_eq]; omega) (fun i c H' Q hc sm qq => ?_) fun D H3 ls hD s3 xD hlen hR => ?_
  · have hi := (List.getElem?_eq_some_iff.mp hc).1
    rw [hpl] at hi
    rw [packs_get hi] at hc
    cases hc
    refine ⟨_, rfl, _, rfl, _, rfl, t, ah, ns, [], i, rfl, hT.same sm, hb, ?_, qq⟩
    unfold many at hi
    omega
  have hLo : Lows ns ls := ⟨by rw [hlen, hpl], hR⟩
  refine ⟨_, rfl, t, _, _, _, rfl, rfl, SqT.of (s3 _ _ hT.tup), rfl, ?_⟩
  refine ⟨_, rfl, t, _, _, _, rfl, rfl, SqT.of (s3 _ _ hT.tup), rfl, ?_⟩
  refine ⟨_, rfl, D, ls, rfl, SqL.of xD, by omega, fun S r4 H4 xs hSz hr4 s4 x4 hv => ?_⟩
  refine ⟨r4, _, rfl, .inl ⟨SqL.of x4, fun nd hnd => ?_⟩⟩
  have s5 := same_new hnd (.tup xs)
  refine ⟨(by show 3 ≤ sizeLine; decide), fun t6 ht6 => ?_⟩
  have s6 := same_new ht6 (.tup [.int (ns.length : Int), .ref ah, .ref nd])
  refine ⟨_, rfl, (by show 2 ≤ sizeLine; decide), fun r7 hr7 => ?_⟩
  have s7 := same_new hr7 (.tup [.ref t6, .ref b])
  have sA := s3.trans (s4.trans (s5.trans (s6.trans s7)))
  refine q r7 t6 ah nd b ls S xs _ (s1.free hb0) ((s1.trans (s2.trans (s3.trans (s4.trans (s5.trans s6))))).free hr7) ((s1.trans (s2.trans (s3.trans (s4.trans s5)))).free ht6) (s1.trans (s2.trans sA)) upd_same ⟨⟨s7 _ _ upd_same, sA _ _ hT.ahs, Nat.le_refl _⟩, s7 _ _ (s6 _ _ upd_same), sA _ _ xb, hLo, hSz, hv⟩

def sp_check_depths (C1 C2 : Addr) : Sp := fun vs H Q E => ∃ (p : Addr) (ds : List Int), vs = [.ref p] ∧ H p = some (.lst (ds.map V.int)) ∧
  ((ds.length ≤ 2048 ∧ GoodD ds ∧ ∀ H', Same H H' → Q .non H') ∨ (2048 < ds.length ∧ E (.ref C1) none H) ∨ (ds.length ≤ 2048 ∧ ¬ GoodD ds ∧ ∀ H', Same H H' → E (.ref C2) none H'))
theorem ok_check_depths (T : Tx K mg a) : FnOk P w K mg base (CX1 P w) 1 a.f_check_depths a.fd_check_depths ["depths"] (sp_check_depths a.c_TooMany a.c_NoTree) := by
  refine T.D_check_depths.F.ok1 sc_check_depths (fun vs H Q E h => ?_) (fun cdv A outer s H vs Q E hr h => ?_)
  · obtain ⟨p, ds, rfl, _⟩ := h
    rfl
  obtain ⟨p, ds, rfl, hp, h⟩ := h
  refine ⟨_, (pss_cons (ps_if (pt_cmpR op_gt (pe_callB call_len_seq rfl T.b_len Tw.bt_len (pa_cons (pv 0) pa_nil)) (pe_glob (v := .int 2048) rfl T.c_MOST_NODES ⟨_, rfl⟩) (nomark _)) (pss_one (ps_raise T.x_TooMany rfl (pa_cons pe_str pa_nil))) pss_nil)
    (pss_cons (ps_if (PW.pt (pw_or (pt_cmpR op_eq (pe_callB call_len_seq rfl T.b_len Tw.bt_len (pa_cons (pv 0) pa_nil)) pe_int (nomark _)) (pw_or1 (pt_cmpR op_ne (pe_ix ix_list (pv 0) pe_int (fun _ _ => rfl)) pe_int (nomark _))))) (pss_one (ps_raise T.x_NoTree rfl (pa_cons pe_str pa_nil))) pss_nil)
    (pss_one (ps_for passOwn rfl (pi_zip rfl T.b_zip Tw.bt_zip (pa_cons (pv 0) (pa_cons (pe_slice sl_list (pv 0) (po_some pe_int) po_none) pa_nil))) (pg_tup rfl (pgs_cons (pg_name (i := 1) sc_check_depths.nd rfl (Or.inl rfl)) (pgs_cons (pg_name (i := 2) sc_check_depths.nd rfl (Or.inl rfl)) pgs_nil))) (pss_one (ps_if (pt_not (pt_chain op_le op_le pe_int (pv 2) (pe_op op_add (pv 1) pe_int))) (pss_one (ps_raise T.x_NoTree rfl (pa_cons pe_str pa_nil))) pss_nil)))))), ?_⟩
  have ern : (ds.map V.int).length = ds.length := List.length_map ..
  refine ⟨_, rfl, p, _, rfl, .inl (SqL.of hp), _, _, rfl, rfl, _, rfl, ite2 (fun c => ?_) fun c => ?_⟩
  · have c : (2048 : Int) < ((ds.map V.int).length : Int) := of_decide_eq_true c
    rw [ern] at c
    rcases h with ⟨h1, _⟩ | ⟨_, q⟩ | ⟨h1, _⟩
    · omega
    · exact ⟨(by show 1 ≤ sizeLine; decide), q⟩
    · omega
  have c : ¬ (2048 : Int) < ((ds.map V.int).length : Int) := fun z => c (decide_eq_true z)
  rw [ern] at c
  have bad : ∀ H', Same H H' → ¬ GoodD ds → E (.ref a.c_NoTree) none H' := fun H' sm ng => by
    rcases h with ⟨_, g, _⟩ | ⟨h1, _⟩ | ⟨_, _, q⟩
    · exact absurd g ng
    · omega
    · exact q H' sm
  refine ⟨_, rfl, p, _, rfl, .inl (SqL.of hp), rfl, _, rfl, ite2 (fun c0 => iteT ?_) fun c0 => ?_⟩
  · have c0 : V.int ((ds.map V.int).length : Int) = V.int 0 := of_decide_eq_true c0
    injection c0 with c0
    rw [ern] at c0
    refine ⟨(by show 1 ≤ sizeLine; decide), bad _ (Same.refl _) fun g => ?_⟩
    have := (List.getElem?_eq_some_iff.mp g.1).1
    omega
  have c0 : ¬ V.int ((ds.map V.int).length : Int) = V.int 0 := fun z => c0 (decide_eq_true z)
  have h0 : 0 < ds.length := by
    rcases Nat.eq_zero_or_pos ds.length with z | z
    · exact absurd (by rw [ern, z]; rfl) c0
    · exact z
  have hd0 : ds[0]? = some ds[0] := List.getElem?_eq_getElem h0
  refine ⟨_, rfl, p, _, _, _, rfl, rfl, SqL.of hp, atI_int (i := 0) hd0, rfl, _, rfl, ite2 (fun c1 => ?_) fun c1 => ?_⟩
  · refine ⟨(by show 1 ≤ sizeLine; decide), bad _ (Same.refl _) fun g => ?_⟩
    have : ds[0] = 0 := by
      have := g.1
      rw [hd0] at this
      exact Option.some.inj this
    rw [this, decide_eq_true rfl] at c1
    exact absurd c1 (by decide)
  have e0 : ds[0] = 0 := by
    by_cases z : V.int ds[0] = V.int 0
    · exact V.int.inj z
    · exact absurd (by rw [decide_eq_false z]; rfl) c1
  refine ⟨_, rfl, _, rfl, _, rfl, p, _, rfl, SqL.of hp, fun c hc => ?_⟩
  have s1 := same_new hc (.lst (cutV (ds.map V.int) (some 1) none))
  have ec : cutV (ds.map V.int) (some 1) none = (ds.drop 1).map V.int := cut_from ds 1
  have xc : upd H c (.lst (cutV (ds.map V.int) (some 1) none)) c = some (.lst ((ds.drop 1).map V.int)) := by rw [upd_same, ec]
  generalize upd H c (.lst (cutV (ds.map V.int) (some 1) none)) = H1 at *
  refine ⟨p, c, _, _, rfl, SqL.of (s1 _ _ hp), SqL.of xc, ?_⟩
  refine for_zip (xs := ds.map V.int) (ys := (ds.drop 1).map V.int) (fun i σ H' => (∃ k1 k2, σ = [some (.ref p), k1, k2]) ∧ Same H1 H' ∧ ∀ j x y, j < i → ds[j]? = some x → ds[j + 1]? = some y → 1 ≤ y ∧ y ≤ x + 1) ⟨⟨none, none, rfl⟩, Same.refl _, fun j x y hj => absurd hj (Nat.not_lt_zero _)⟩ ?_ ?_ ?_
  · rintro i σ H' _ ⟨_, sm, _⟩
    exact ⟨SqL.of (sm _ _ (s1 _ _ hp)), SqL.of (sm _ _ xc)⟩
  · rintro i x y σ H' t hx hy ⟨⟨k1, k2, rfl⟩, sm, ok⟩ ht
    obtain ⟨u, hu, rfl⟩ := int_at hx
    obtain ⟨v, hv, rfl⟩ := int_at hy
    rw [List.getElem?_drop, Nat.add_comm] at hv
    have s2 := same_new ht (.tup [.int u, .int v])
    have fin : 1 ≤ v ∧ v ≤ u + 1 → ∀ j x y, j < i + 1 → ds[j]? = some x → ds[j + 1]? = some y → 1 ≤ y ∧ y ≤ x + 1 := fun hh j x y hj e1 e2 => by
      rcases Nat.lt_or_ge j i with l | l
      · exact ok j x y l e1 e2
      · have : j = i := by omega
        subst this
        rw [hu] at e1
        rw [hv] at e2
        cases e1
        cases e2
        exact hh
    have ng : ¬ (1 ≤ v ∧ v ≤ u + 1) → ¬ GoodD ds := fun z g => z (g.2 i u v hu hv)
    refine ⟨t, _, rfl, SqT.of upd_same, rfl, _, _, rfl, _, _, rfl, rfl, ?_⟩
    refine ⟨_, rfl, _, _, rfl, rfl, _, rfl, ite2 (fun z1 => ⟨_, rfl, _, _, rfl, rfl, _, _, rfl, rfl, _, rfl, ?_⟩) fun z1 => ⟨_, rfl, iteT ⟨(by show 1 ≤ sizeLine; decide), bad _ (s1.trans (sm.trans s2)) (ng fun z => z1 (decide_eq_true z.1))⟩⟩⟩
    have z1 : 1 ≤ v := of_decide_eq_true z1
    by_cases z2 : v ≤ u + 1
    · exact iteNS z2 ⟨⟨_, _, rfl⟩, sm.trans s2, fin ⟨z1, z2⟩⟩
    · refine ite2 (fun _ => ⟨(by show 1 ≤ sizeLine; decide), bad _ (s1.trans (sm.trans s2)) (ng fun z => z2 z.2)⟩) fun z => absurd ?_ z
      show (!decide (v ≤ u + 1)) = true
      rw [decide_eq_false z2]
      rfl
  · rintro σ H' ⟨_, sm, ok⟩
    have g : GoodD ds := by
      refine ⟨by rw [hd0, e0], fun i x y e1 e2 => ok i x y ?_ e1 e2⟩
      have := (List.getElem?_eq_some_iff.mp e2).1
      rw [ern, List.length_map, List.length_drop]
      omega
    rcases h with ⟨_, _, q⟩ | ⟨h1, _⟩ | ⟨_, h1, _⟩
    · exact q H' (s1.trans sm)
    · omega
    · exact absurd g h1

def sp_brackets_of (C1 C2 : Addr) : Sp := fun vs H Q E => ∃ (p : Addr) (ds : List Int), vs = [.ref p] ∧ H p = some (.lst (ds.map V.int)) ∧
  ((ds.length ≤ 2048 ∧ GoodD ds ∧ ∀ r H', H r = none → Same H H' → H' r = some (.lst ((brk ds 0).map V.int)) → Q (.ref r) H') ∨ (2048 < ds.length ∧ E (.ref C1) none H) ∨ (ds.length ≤ 2048 ∧ ¬ GoodD ds ∧ ∀ H', Same H H' → E (.ref C2) none H'))
theorem ok_brackets_of (T : Tx K mg a) : FnOk P w K mg base (CX1 P w) 2 a.f_brackets_of a.fd_brackets_of ["depths"] (sp_brackets_of a.c_TooMany a.c_NoTree) := by
  refine T.D_brackets_of.F.ok1 sc_brackets_of (fun vs H Q E h => ?_) (fun cdv A outer s H vs Q E hr h => ?_)
  · obtain ⟨p, ds, rfl, _⟩ := h
    rfl
  obtain ⟨p, ds, rfl, hp, h⟩ := h
  refine ⟨_, (pss_cons (ps_expr (pe_call ((ok_check_depths T).mono (by decide)) hr rfl T.D_check_depths.m T.D_check_depths.F.kp T.D_check_depths.b .nil pass1 (pa_cons (pv 0) pa_nil)))
    (pss_cons (ps_set (i := 1) sc_brackets_of.nd rfl (Or.inl rfl) (pe_lst pa_nil))
    (pss_cons (ps_set (i := 2) sc_brackets_of.nd rfl (Or.inl rfl) pe_int)
    (pss_cons (ps_for passOwn rfl (pi_list (pv 0)) (pg_name (i := 3) sc_brackets_of.nd rfl (Or.inl rfl)) (pss_cons (ps_expr (pe_bm PySem.F.plainAttrs_list PySem.F.slot_list_extend PySem.F.type_list_extend mt_extend (pv 1) (pa_cons (pe_op op_rep (pe_lst (pa_cons pe_int pa_nil)) (pe_op op_sub (pv 2) (pv 3))) pa_nil)))
    (pss_cons (ps_expr (pe_bm PySem.F.plainAttrs_list PySem.F.slot_list_append PySem.F.type_list_append mt_append (pv 1) (pa_cons pe_int pa_nil)))
    (pss_one (ps_set (i := 2) sc_brackets_of.nd rfl (Or.inl rfl) (pe_op op_add (pv 3) pe_int))))))
    (pss_one (ps_ret (pe_op op_cat (pv 1) (pe_op op_rep (pe_lst (pa_cons pe_int pa_nil)) (pv 2))))))))), ?_⟩
  rcases h with ⟨hl, hg, q⟩ | ⟨h1, q⟩ | ⟨h1, h2, q⟩
  rotate_left
  · exact ⟨_, rfl, p, ds, rfl, hp, .inr (.inl ⟨h1, q⟩)⟩
  · exact ⟨_, rfl, p, ds, rfl, hp, .inr (.inr ⟨h1, h2, q⟩)⟩
  have hbl := brk_length hg.dp
  refine ⟨_, rfl, p, ds, rfl, hp, .inl ⟨hl, hg, fun H1 s1 => ?_⟩⟩
  refine ⟨(by show 0 ≤ sizeLine; decide), fun b hb => ?_⟩
  have s2 := s1.trans (same_new hb (.lst []))
  have xb : upd H1 b (.lst []) b = some (.lst (([] : List Int).map V.int)) := upd_same
  have hbH : H b = none := s1.free hb
  generalize upd H1 b (.lst []) = H2 at *
  refine ⟨_, rfl, p, rfl, ⟨_, SqL.of (s2 _ _ hp)⟩, ?_⟩
  refine for_list (xs := ds.map V.int) (fun i σ H' => (∃ (u : Int) (k3 : Option V) (bs : List Int), σ = [some (.ref p), some (.ref b), some (.int u), k3] ∧ H' b = some (.lst (bs.map V.int)) ∧ bs ++ brk (ds.drop i) u = brk ds 0 ∧ Dp (ds.drop i) u) ∧ Same H H') ⟨⟨0, none, [], rfl, xb, rfl, hg.dp⟩, s2⟩ ?_ ?_ ?_
  · rintro i σ H' _ ⟨_, sm⟩
    exact SqL.of (sm _ _ hp)
  · rintro i x σ H' hx ⟨⟨u, k3, bs, rfl, xb', eb, hd⟩, sm⟩
    obtain ⟨d, hdi, rfl⟩ := int_at hx
    have hi := (List.getElem?_eq_some_iff.mp hdi).1
    have edr : ds.drop i = d :: ds.drop (i + 1) := by
      rw [List.drop_eq_getElem_cons hi]
      congr 1
      exact (List.getElem?_eq_some_iff.mp hdi).2
    rw [edr] at eb hd
    obtain ⟨d0, du, hd'⟩ := hd
    have hlen := congrArg List.length eb
    simp only [brk, List.length_append, List.length_replicate, List.length_cons] at hlen
    rw [hbl] at hlen
    have hu : u - d ≤ 4096 := by omega
    have ub : bs.length ≤ 4096 := by omega
    refine ⟨_, rfl, .inl ⟨rfl, _, SqL.of xb'⟩, ?_⟩
    refine ⟨(by show 1 ≤ sizeLine; decide), fun l1 h1 => ⟨_, rfl, _, rfl, _, _, rfl, rfl, l1, u - d, [.int 0], rfl, rfl, upd_same, by omega, by omega, ?_, fun r1 hr1 => ?_⟩⟩
    · rw [sizeLine_eq]
      show 1 * _ ≤ _
      omega
    have s3 := (same_new h1 (.lst [.int 0])).trans (same_new hr1 (.lst (List.replicate (u - d).toNat [.int 0]).flatten))
    have x3 : upd (upd H' l1 (.lst [.int 0])) r1 (.lst (List.replicate (u - d).toNat [.int 0]).flatten) r1 = some (.lst ((List.replicate (u - d).toNat (0 : Int)).map V.int)) := by
      rw [upd_same, rep_one]
    have xb3 := s3 _ _ xb'
    have sm3 := sm.trans s3
    generalize upd (upd H' l1 (.lst [.int 0])) r1 (.lst (List.replicate (u - d).toNat [.int 0]).flatten) = H3 at *
    refine ⟨b, r1, _, _, rfl, rfl, xb3, x3, ?_, ?_⟩
    · rw [List.length_map, List.length_map, List.length_replicate, sizeLine_eq]
      omega
    have x4 : upd H3 b (.lst (bs.map V.int ++ (List.replicate (u - d).toNat (0 : Int)).map V.int)) b = some (.lst ((bs ++ List.replicate (u - d).toNat 0).map V.int)) := by
      rw [upd_same, List.map_append]
    have sm4 := same_set sm3 hbH (.lst (bs.map V.int ++ (List.replicate (u - d).toNat (0 : Int)).map V.int))
    generalize upd H3 b (.lst (bs.map V.int ++ (List.replicate (u - d).toNat (0 : Int)).map V.int)) = H4 at *
    refine ⟨_, rfl, .inl ⟨rfl, _, SqL.of x4⟩, b, _, _, rfl, rfl, x4, ?_, ?_⟩
    · rw [List.length_map, List.length_append, List.length_replicate, sizeLine_eq]
      omega
    refine ⟨_, rfl, _, _, rfl, rfl, ⟨d + 1, _, bs ++ List.replicate (u - d).toNat 0 ++ [1], rfl, ?_, ?_, hd'⟩, same_set sm4 hbH _⟩
    · rw [upd_same, List.map_append (l₂ := [1])]
      rfl
    · rw [← eb]
      simp [brk]
  · rintro σ H' ⟨⟨u, k3, bs, rfl, xb', eb, hd⟩, sm⟩
    rw [List.length_map, List.drop_length] at eb hd
    have hu : 0 ≤ u := hd
    have hlen := congrArg List.length eb
    simp only [brk, List.length_append, List.length_replicate] at hlen
    rw [hbl] at hlen
    refine ⟨_, rfl, ?_⟩
    refine rep_way (i := 2) (k := u) (xs := [.int 0]) (fun Q' q => q) rfl (by omega) (by decide) (by omega) fun p1 H4 hp1 s4 x4 => ?_
    rw [rep_one] at x4
    refine ⟨b, p1, _, _, rfl, rfl, s4 _ _ xb', x4, ?_, fun p2 hp2 => ?_⟩
    · rw [List.length_map, List.length_map, List.length_replicate, sizeLine_eq]
      omega
    refine q p2 _ ((sm.trans s4).free hp2) (sm.trans (s4.trans (same_new hp2 _))) ?_
    rw [upd_same, ← List.map_append]
    exact congrArg (fun l : List Int => some (HO.lst (l.map V.int))) eb


def sp_kept_tree (C1 C2 : Addr) : Sp := fun vs H Q E => ∃ (p : Addr) (ds : List Int), vs = [.ref p] ∧ H p = some (.lst (ds.map V.int)) ∧
  ((ds.length ≤ 2048 ∧ GoodD ds ∧ ∀ r t ah nd bl lows S xs H', H bl = none → Same H H' → H' r = some (.tup [.ref t, .ref bl]) → KB H' t ah nd bl (brk ds 0) lows S xs → Q (.ref r) H') ∨ (2048 < ds.length ∧ E (.ref C1) none H) ∨ (ds.length ≤ 2048 ∧ ¬ GoodD ds ∧ ∀ H', Same H H' → E (.ref C2) none H'))
theorem ok_kept_tree (T : Tx K mg a) : FnOk P w K mg base (CX1 P w) 7 a.f_kept_tree a.fd_kept_tree ["depths"] (sp_kept_tree a.c_TooMany a.c_NoTree) := by
  refine T.D_kept_tree.F.ok1 sc_kept_tree (fun vs H Q E h => ?_) (fun cdv A outer s H vs Q E hr h => ?_)
  · obtain ⟨p, ds, rfl, _⟩ := h
    rfl
  obtain ⟨p, ds, rfl, hp, h⟩ := h
  refine ⟨_, (pss_one (ps_ret (pe_call ((ok_kept_brackets T).mono (by decide)) hr rfl T.D_kept_brackets.m T.D_kept_brackets.F.kp T.D_kept_brackets.b .nil pass0 (pa_cons (pe_call ((ok_brackets_of T).mono (by decide)) hr rfl T.D_brackets_of.m T.D_brackets_of.F.kp T.D_brackets_of.b .nil pass1 (pa_cons (pv 0) pa_nil)) pa_nil)))), ?_⟩
  rcases h with ⟨hl, hg, q⟩ | ⟨h1, q⟩ | ⟨h1, h2, q⟩
  rotate_left
  · exact ⟨_, rfl, p, ds, rfl, hp, .inr (.inl ⟨h1, q⟩)⟩
  · exact ⟨_, rfl, p, ds, rfl, hp, .inr (.inr ⟨h1, h2, q⟩)⟩
  refine ⟨_, rfl, p, ds, rfl, hp, .inl ⟨hl, hg, fun b H1 hb s1 xb => ?_⟩⟩
  have hbl := brk_len hg
  exact ⟨b, brk ds 0, rfl, SqL.of xb, by omega, isBits_brk _ _, brk_tree hg, fun r t ah nd bl lows S xs H2 h1 h2 h3 s2 xr kb => q r t ah nd bl lows S xs H2 (s1.free h1) (s1.trans s2) xr kb⟩

def sp_no_tree : Sp := fun vs H Q _ => ∃ (p : Addr) (ds : List Int), vs = [.ref p] ∧ H p = some (.lst (ds.map V.int)) ∧ ds.length ≤ 2048 ∧ ¬ GoodD ds ∧ ∀ H', Same H H' → Q (.bl true) H'
theorem ok_law_no_tree (T : Tx K mg a) : FnOk P w K mg base CX0 8 a.f_law_no_tree a.fd_law_no_tree ["_law_depths_here"] sp_no_tree := by
  refine T.D_law_no_tree.F.ok sc_law_no_tree (fun vs H Q E h => ?_) (fun cdv A outer s H vs Q E hr h => ?_)
  · obtain ⟨p, ds, rfl, _⟩ := h
    rfl
  obtain ⟨p, ds, rfl, hp, hl, hg, q⟩ := h
  refine ⟨_, (pss_cons (ps_set (i := 1) sc_law_no_tree.nd rfl (Or.inl rfl) (pe_lst pa_nil))
    (pss_cons (ps_tryCall (i := 2) ((ok_kept_tree T).mono (by decide)) hr rfl T.D_kept_tree.m T.D_kept_tree.F.kp T.D_kept_tree.b (pa_cons (pv 0) pa_nil) T.x_NoTree rfl sc_law_no_tree.nd rfl rfl rfl rfl (fun _ => (pss_one (ps_set (i := 1) sc_law_no_tree.nd rfl (Or.inl rfl) (pe_lst (pa_cons (pe_callB (show CallR _ _ (rIsx K) from call_isx) rfl T.b_isinstance Tw.bt_isinstance (pa_cons (pv 2) (pa_cons (pe_glob (v := .ref a.c_WoodError) rfl T.g_WoodError rfl) pa_nil))) (pa_cons (pe_callB (show CallR _ _ (rIsx K) from call_isx) rfl T.b_isinstance Tw.bt_isinstance (pa_cons (pv 2) (pa_cons (pe_bltn (v := .ty "ValueError") rfl T.b_ValueError Tw.bt_ValueError rfl) pa_nil))) (pa_cons (pe_callB (show CallR _ _ (rIsx K) from call_isx) rfl T.b_isinstance Tw.bt_isinstance (pa_cons (pv 2) (pa_cons (pe_glob (v := .ref a.c_TooMany) rfl T.g_TooMany rfl) pa_nil))) pa_nil))))))))
    (pss_one (ps_ret (pe_cmpR (op_eqD hr.units) (pv 1) (pe_lst (pa_cons pe_bl (pa_cons pe_bl (pa_cons pe_bl pa_nil)))) (nomark _)))))), ?_⟩
  refine ⟨(by show 0 ≤ sizeLine; decide), fun t0 ht0 => ?_⟩
  have s0 := same_new ht0 (.lst [])
  refine ⟨_, rfl, p, ds, rfl, s0 _ _ hp, .inr (.inr ⟨hl, hg, fun H2 sm2 => ⟨rfl, fun ea hea => ?_⟩⟩)⟩
  have sE := s0.trans (sm2.trans (same_new hea (excO ea a.c_NoTree)))
  refine ⟨_, rfl, ea, _, _, _, _, rfl, .inl ⟨_, rfl, rfl⟩, upd_same, T.k_NoTree, T.i_NoTree_WoodError, ?_⟩
  refine ⟨_, rfl, ea, _, _, _, _, rfl, .inr ⟨_, rfl, rfl⟩, upd_same, T.k_NoTree, T.i_NoTree_ValueError, ?_⟩
  refine ⟨_, rfl, ea, _, _, _, _, rfl, .inl ⟨_, rfl, rfl⟩, upd_same, T.k_NoTree, T.i_NoTree_TooMany, ?_⟩
  refine ⟨(by show 3 ≤ sizeLine; decide), fun l hl1 => ?_⟩
  have s1 := same_new hl1 (.lst [.bl true, .bl true, .bl false])
  refine ⟨_, rfl, (by show 3 ≤ sizeLine; decide), fun l2 hl2 => ?_⟩
  have s2 := same_new hl2 (.lst [.bl true, .bl true, .bl false])
  refine .inr ⟨_, _, .lst (SqL.of (s2 _ _ upd_same)) (.cons (.bl _) (.cons (.bl _) (.cons (.bl _) .nil))), .lst (SqL.of upd_same) (.cons (.bl _) (.cons (.bl _) (.cons (.bl _) .nil))), rfl, rfl, ?_⟩
  exact q _ (sE.trans (s1.trans s2))

def sp_too_many : Sp := fun vs H Q _ => ∃ (p : Addr) (ds : List Int), vs = [.ref p] ∧ H p = some (.lst (ds.map V.int)) ∧ 2048 < ds.length ∧ ∀ H', Same H H' → Q (.bl true) H'
theorem ok_law_too_many (T : Tx K mg a) : FnOk P w K mg base CX0 8 a.f_law_too_many a.fd_law_too_many ["_law_depths_here"] sp_too_many := by
  refine T.D_law_too_many.F.ok sc_law_too_many (fun vs H Q E h => ?_) (fun cdv A outer s H vs Q E hr h => ?_)
  · obtain ⟨p, ds, rfl, _⟩ := h
    rfl
  obtain ⟨p, ds, rfl, hp, hl, q⟩ := h
  refine ⟨_, (pss_cons (ps_set (i := 1) sc_law_too_many.nd rfl (Or.inl rfl) (pe_lst pa_nil))
    (pss_cons (ps_tryCall (i := 2) ((ok_kept_tree T).mono (by decide)) hr rfl T.D_kept_tree.m T.D_kept_tree.F.kp T.D_kept_tree.b (pa_cons (pv 0) pa_nil) T.x_TooMany rfl sc_law_too_many.nd rfl rfl rfl rfl (fun _ => (pss_one (ps_set (i := 1) sc_law_too_many.nd rfl (Or.inl rfl) (pe_lst (pa_cons (pe_callB (show CallR _ _ (rIsx K) from call_isx) rfl T.b_isinstance Tw.bt_isinstance (pa_cons (pv 2) (pa_cons (pe_glob (v := .ref a.c_WoodError) rfl T.g_WoodError rfl) pa_nil))) (pa_cons (pe_callB (show CallR _ _ (rIsx K) from call_isx) rfl T.b_isinstance Tw.bt_isinstance (pa_cons (pv 2) (pa_cons (pe_bltn (v := .ty "ValueError") rfl T.b_ValueError Tw.bt_ValueError rfl) pa_nil))) (pa_cons (pe_callB (show CallR _ _ (rIsx K) from call_isx) rfl T.b_isinstance Tw.bt_isinstance (pa_cons (pv 2) (pa_cons (pe_glob (v := .ref a.c_NoTree) rfl T.g_NoTree rfl) pa_nil))) pa_nil))))))))
    (pss_one (ps_ret (pe_cmpR (op_eqD hr.units) (pv 1) (pe_lst (pa_cons pe_bl (pa_cons pe_bl (pa_cons pe_bl pa_nil)))) (nomark _)))))), ?_⟩
  refine ⟨(by show 0 ≤ sizeLine; decide), fun t0 ht0 => ?_⟩
  have s0 := same_new ht0 (.lst [])
  refine ⟨_, rfl, p, ds, rfl, s0 _ _ hp, .inr (.inl ⟨hl, rfl, fun ea hea => ?_⟩)⟩
  have sE := s0.trans (same_new hea (excO ea a.c_TooMany))
  refine ⟨_, rfl, ea, _, _, _, _, rfl, .inl ⟨_, rfl, rfl⟩, upd_same, T.k_TooMany, T.i_TooMany_WoodError, ?_⟩
  refine ⟨_, rfl, ea, _, _, _, _, rfl, .inr ⟨_, rfl, rfl⟩, upd_same, T.k_TooMany, T.i_TooMany_ValueError, ?_⟩
  refine ⟨_, rfl, ea, _, _, _, _, rfl, .inl ⟨_, rfl, rfl⟩, upd_same, T.k_TooMany, T.i_TooMany_NoTree, ?_⟩
  refine ⟨(by show 3 ≤ sizeLine; decide), fun l hl1 => ?_⟩
  have s1 := same_new hl1 (.lst [.bl true, .bl true, .bl false])
  refine ⟨_, rfl, (by show 3 ≤ sizeLine; decide), fun l2 hl2 => ?_⟩
  have s2 := same_new hl2 (.lst [.bl true, .bl true, .bl false])
  refine .inr ⟨_, _, .lst (SqL.of (s2 _ _ upd_same)) (.cons (.bl _) (.cons (.bl _) (.cons (.bl _) .nil))), .lst (SqL.of upd_same) (.cons (.bl _) (.cons (.bl _) (.cons (.bl _) .nil))), rfl, rfl, ?_⟩
  exact q _ (sE.trans (s1.trans s2))

def sp_heap : Sp := fun vs H Q _ => ∃ (nd l : Addr) (ls : List Int) (S : Nat) (xs : List V), vs = [.ref nd, .ref l] ∧ H nd = some (.tup xs) ∧ H l = some (.lst (ls.map V.int)) ∧ ls.length ≤ 4096 ∧ IsSz ls.length S ∧ HInv ls S 1 xs ∧ ∀ H', Same H H' → Q (.bl true) H'
theorem ok_law_heap (T : Tx K mg a) : FnOk P w K mg base CX0 2 a.f_law_heap a.fd_law_heap ["_law_nodes", "_law_lows"] sp_heap := by
  refine T.D_law_heap.F.ok sc_law_heap (fun vs H Q E h => ?_) (fun cdv A outer s H vs Q E hr h => ?_)
  · obtain ⟨nd, l, ls, S, xs, rfl, _⟩ := h
    rfl
  obtain ⟨nd, l, ls, S, xs, rfl, xnd, xl, hl4, hSz, hv, q⟩ := h
  refine ⟨_, (pss_cons (ps_set (i := 2) sc_law_heap.nd rfl (Or.inl rfl) pe_int)
    (pss_cons (ps_while PassesOwn.never (pt_cmpR op_lt (pv 2) (pe_callB call_len_seq rfl T.b_len Tw.bt_len (pa_cons (pv 1) pa_nil)) (nomark _)) (pss_one (ps_set (i := 2) sc_law_heap.nd rfl (Or.inl rfl) (pe_op op_mul pe_int (pv 2)))))
    (pss_cons (ps_if (PW.pt (pw_or (pt_not (pt_val (pe_callB call_isi rfl T.b_isinstance Tw.bt_isinstance (pa_cons (pv 0) (pa_cons (pe_bltn (v := .ty "tuple") rfl T.b_tuple Tw.bt_tuple rfl) pa_nil))))) (pw_or (pt_cmpR op_ne (pe_callB call_len_seq rfl T.b_len Tw.bt_len (pa_cons (pv 0) pa_nil)) (pe_op op_mul pe_int (pv 2)) (nomark _)) (pw_or1 (pt_cmp (pc_notN (pe_ix ix_tup (pv 0) pe_int (fun _ _ => rfl)))))))) (pss_one (ps_ret pe_bl)) pss_nil)
    (pss_cons (ps_for PassesOwn.never rfl (pi_range1 rfl T.b_range (pa_cons (pv 2) pa_nil)) (pg_name (i := 3) sc_law_heap.nd rfl (Or.inl rfl)) (pss_cons (ps_set (i := 4) sc_law_heap.nd rfl (Or.inl rfl) (pe_ix ix_tup (pv 0) (pe_op op_add (pv 2) (pv 3)) (fun _ _ => rfl)))
    (pss_cons (ps_if (PW.pt (pw_and (pt_cmpR op_lt (pv 3) (pe_callB call_len_seq rfl T.b_len Tw.bt_len (pa_cons (pv 1) pa_nil)) (nomark _)) (pw_and1 (PW.pt (pw_or (pt_not (pt_val (pe_call ((ok_law_whole T).mono (by decide)) hr rfl T.D_law_whole.m T.D_law_whole.F.kp T.D_law_whole.b .nil pass0 (pa_cons (pv 4) pa_nil)))) (pw_or1 (pt_cmpR op_ne (pv 4) (pe_ix ix_list (pv 1) (pv 3) (fun _ _ => rfl)) (nomark _)))))))) (pss_one (ps_ret pe_bl)) pss_nil)
    (pss_one (ps_if (PW.pt (pw_and (pt_cmpR op_ge (pv 3) (pe_callB call_len_seq rfl T.b_len Tw.bt_len (pa_cons (pv 1) pa_nil)) (nomark _)) (pw_and1 (pt_cmp (pc_notN (pv 4)))))) (pss_one (ps_ret pe_bl)) pss_nil)))))
    (pss_cons (ps_for PassesOwn.never rfl (pi_range2 rfl T.b_range (pa_cons pe_int (pa_cons (pv 2) pa_nil))) (pg_name (i := 3) sc_law_heap.nd rfl (Or.inl rfl)) (pss_cons (ps_setComp (i := 5) sc_law_heap.nd rfl rfl rfl CompOk.zero (pi_tup (pe_slice sl_tup (pv 0) (po_some (pe_op op_mul pe_int (pv 3))) (po_some (pe_op op_add (pe_op op_mul pe_int (pv 3)) pe_int)))) (fun _ _ _ _ => (pts_one (pt_cmp (pc_notN (pv 0))))) (fun _ _ _ _ => (pv 0)))
    (pss_cons (ps_if (PW.pt (pw_and (pt_cmpR (op_eqD hr.units) (pv 5) (pe_lst pa_nil) (nomark _)) (pw_and1 (pt_cmp (pc_notN (pe_ix ix_tup (pv 0) (pv 3) (fun _ _ => rfl))))))) (pss_one (ps_ret pe_bl)) pss_nil)
    (pss_one (ps_if (PW.pt (pw_and (pt_cmpR (op_neD hr.units) (pv 5) (pe_lst pa_nil) (nomark _)) (pw_and1 (PW.pt (pw_or (pt_not (pt_val (pe_call ((ok_law_whole T).mono (by decide)) hr rfl T.D_law_whole.m T.D_law_whole.F.kp T.D_law_whole.b .nil pass0 (pa_cons (pe_ix ix_tup (pv 0) (pv 3) (fun _ _ => rfl)) pa_nil)))) (pw_or1 (pt_cmpR op_ne (pe_ix ix_tup (pv 0) (pv 3) (fun _ _ => rfl)) (pe_callB (call_minL rfl) rfl T.b_min Tw.bt_min (pa_cons (pv 5) pa_nil)) (nomark _)))))))) (pss_one (ps_ret pe_bl)) pss_nil)))))
    (pss_one (ps_ret pe_bl))))))), ?_⟩
  have erl : (ls.map V.int).length = ls.length := List.length_map ..
  refine ⟨fun m σ X2 => ∃ h : Nat, σ = [some (.ref nd), some (.ref l), some (.int ((2 ^ h : Nat) : Int)), none, none, none] ∧ X2 = H ∧ m = ls.length - 2 ^ h ∧ ∀ j, j < h → 2 ^ j < ls.length, ⟨_, 0, rfl, rfl, rfl, fun j hj => absurd hj (Nat.not_lt_zero _)⟩, ?_⟩
  rintro m σ X2 ⟨h, rfl, rfl, rfl, hj⟩
  refine ⟨_, rfl, _, rfl, l, _, rfl, .inl (SqL.of xl), _, _, rfl, rfl, _, rfl, ite2 (fun c => ?_) fun c => ?_⟩
  · have c : ((2 ^ h : Nat) : Int) < ((ls.map V.int).length : Int) := of_decide_eq_true c
    have hp : 0 < 2 ^ h := Nat.two_pow_pos h
    refine ⟨_, fun σ' H2 z => z, _, rfl, _, _, rfl, rfl, .inl ⟨by decide, by decide⟩, ls.length - 2 ^ (h + 1), by rw [Nat.pow_succ]; omega, h + 1, ?_, rfl, rfl, fun j hj2 => ?_⟩
    · have e : (2 : Int) * ((2 ^ h : Nat) : Int) = ((2 ^ (h + 1) : Nat) : Int) := by rw [Nat.pow_succ]; omega
      rw [← e]
      rfl
    · rcases Nat.lt_or_ge j h with l | l
      · exact hj j l
      · have : j = h := by omega
        subst this
        omega
  have c : ¬ ((2 ^ h : Nat) : Int) < ((ls.map V.int).length : Int) := fun z => c (decide_eq_true z)
  have hSz2 : IsSz ls.length (2 ^ h) := ⟨h, rfl, by omega, hj⟩
  have eS : 2 ^ h = S := IsSz.uniq hSz2 hSz
  rw [eS]
  have hS0 := hSz.pos
  have hS4 := hSz.le hl4
  have hlS : ls.length ≤ S := by
    obtain ⟨_, _, z, _⟩ := hSz
    exact z
  have hxl := hv.len
  refine ⟨_, rfl, _, "tuple", _, true, rfl, .tup xnd, rfl, true, rfl, iteF ?_⟩
  refine ⟨_, rfl, nd, _, rfl, .inr (SqT.of xnd), _, rfl, _, _, rfl, rfl, .inl ⟨by decide, by decide⟩, rfl, _, rfl, iteNS (congrArg V.int (by rw [hxl]; omega)) ?_⟩
  refine ⟨_, rfl, nd, _, _, _, rfl, rfl, SqT.of xnd, atI_V (j := 0) hv.zero, _, rfl, iteF ?_⟩
  refine ⟨_, rfl, (S : Int), rfl, by omega, by omega, ?_⟩
  rw [Int.toNat_natCast]
  refine for_range (n := S) (fun i σ X => (∃ k3 k4, σ = [some (.ref nd), some (.ref l), some (.int (S : Int)), k3, k4, none]) ∧ X = X2) ⟨⟨none, none, rfl⟩, rfl⟩ ?_ ?_
  · rintro i σ X hi ⟨⟨k3, k4, rfl⟩, rfl⟩
    have hat : atI xs ((S : Int) + (0 + (i : Int))) = some (leafV ls i) := by
      rw [show (S : Int) + (0 + (i : Int)) = ((S + i : Nat) : Int) from by omega]
      exact atI_V (hv.leaf i hi)
    refine ⟨_, rfl, _, rfl, _, rfl, _, _, rfl, rfl, nd, _, _, _, rfl, rfl, SqT.of xnd, hat, ?_⟩
    rcases Nat.lt_or_ge i ls.length with hlt | hge
    · have hg : ls[i]? = some ls[i] := List.getElem?_eq_getElem hlt
      rw [leafV_some hg]
      have hatl : atI (ls.map V.int) (0 + (i : Int)) = some (.int ls[i]) := by
        rw [Int.zero_add]
        exact atI_int hg
      refine ⟨_, rfl, _, rfl, l, _, rfl, .inl (SqL.of xl), _, _, rfl, rfl, _, rfl, and_way ?_ fun _ n => ⟨_, rfl, ls[i], rfl, true, rfl, iteF ⟨_, rfl, _, rfl, _, rfl, l, _, _, _, rfl, rfl, SqL.of xl, hatl, rfl, _, rfl, iteNS rfl n⟩⟩⟩
      refine ⟨_, rfl, _, rfl, l, _, rfl, .inl (SqL.of xl), _, _, rfl, rfl, _, rfl, ite2 (fun z => ?_) fun _ => ⟨⟨_, _, rfl⟩, rfl⟩⟩
      have z : ((ls.map V.int).length : Int) ≤ 0 + (i : Int) := of_decide_eq_true z
      omega
    · rw [leafV_none hge]
      refine ⟨_, rfl, _, rfl, l, _, rfl, .inl (SqL.of xl), _, _, rfl, rfl, _, rfl, ite2 (fun z => ?_) fun _ => ?_⟩
      · have z : 0 + (i : Int) < ((ls.map V.int).length : Int) := of_decide_eq_true z
        omega
      refine ⟨_, rfl, _, rfl, l, _, rfl, .inl (SqL.of xl), _, _, rfl, rfl, _, rfl, and_way ⟨⟨_, _, rfl⟩, rfl⟩ fun _ n => ⟨_, rfl, _, rfl, iteF n⟩⟩
  rintro σ X ⟨⟨k3, k4, rfl⟩, rfl⟩
  refine ⟨_, rfl, 1, (S : Int), rfl, ⟨by decide, by decide, by omega, by omega⟩, ?_⟩
  refine for_range (lo := 1) (fun i σ Y => (∃ k3 k4 k5, σ = [some (.ref nd), some (.ref l), some (.int (S : Int)), k3, k4, k5]) ∧ Same X Y) ⟨⟨_, _, _, rfl⟩, Same.refl _⟩ ?_ ?_
  · rintro i σ Y hi ⟨⟨k3, k4, k5, rfl⟩, sm⟩
    have hi' : i + 1 < S := by omega
    obtain ⟨x, y, e1, e2, e3⟩ := hv.node (i + 1) (by omega) (by omega) hi'
    have nx := hv.ni _ (List.mem_of_getElem? e1)
    have ny := hv.ni _ (List.mem_of_getElem? e2)
    have ek : 1 + (i : Int) = ((i + 1 : Nat) : Int) := by omega
    have ec : cutV xs (some (2 * (1 + (i : Int)))) (some (2 * (1 + (i : Int)) + 2)) = [x, y] := by
      rw [ek]
      exact cut_two e1 e2
    have xn := sm _ _ xnd
    refine ⟨_, rfl, _, rfl, _, _, rfl, rfl, .inl ⟨by decide, by decide⟩, _, rfl, _, rfl, _, _, rfl, rfl, .inl ⟨by decide, by decide⟩, _, _, rfl, rfl, _, rfl, nd, _, rfl, SqT.of xn, ?_, fun c2 hc2 => ⟨c2, rfl, ⟨_, SqT.of upd_same⟩, ?_⟩⟩
    · rw [ek, show 2 * ((i + 1 : Nat) : Int) = ((2 * (i + 1) : Nat) : Int) from by omega, HT.sIx_nat]
      omega
    rw [ec]
    have u1 := same_new hc2 (.tup [x, y])
    refine comp_intsT upd_same (by show 2 < sizeLine; decide) (fun z hz => ?_) (fun z H' Q hz q => ⟨_, rfl, _, rfl, q⟩) (fun z H' Q q => ⟨_, rfl, q⟩) fun D2 hD2 => ?_
    · rcases List.mem_cons.mp hz with rfl | hz
      · exact nx
      · rw [List.mem_singleton.mp hz]
        exact ny
    have u2 := u1.trans (same_new hD2 (.lst ((intsV [x, y]).map V.int)))
    have xD : upd (upd Y c2 (.tup [x, y])) D2 (.lst ((intsV [x, y]).map V.int)) D2 = some (.lst ((intsV [x, y]).map V.int)) := upd_same
    have sm2 := sm.trans u2
    generalize upd (upd Y c2 (.tup [x, y])) D2 (.lst ((intsV [x, y]).map V.int)) = Y2 at *
    have hatn : atI xs (1 + (i : Int)) = some (lessV x y) := by
      rw [ek]
      exact atI_V e3
    refine ⟨_, rfl, (by show 0 ≤ sizeLine; decide), fun e1' he1 => ?_⟩
    have s3 := same_new he1 (.lst [])
    refine .inl ⟨D2, e1', intsV [x, y], [], rfl, rfl, SqL.of (s3 _ _ xD), SqL.of upd_same, _, rfl, ?_⟩
    rcases less_min nx ny with ⟨e0, el⟩ | ⟨e0, el⟩
    · rw [e0] at xD ⊢
      rw [el] at hatn
      refine and_way ?_ fun _ n => ⟨_, rfl, _, rfl, nd, _, _, _, rfl, rfl, SqT.of (s3 _ _ (sm2 _ _ xnd)), hatn, _, rfl, iteF n⟩
      refine ⟨_, rfl, (by show 0 ≤ sizeLine; decide), fun e2' he2 => ?_⟩
      have s4 := same_new he2 (.lst [])
      refine .inl ⟨D2, e2', [], [], rfl, rfl, SqL.of (s4 _ _ (s3 _ _ xD)), SqL.of upd_same, _, rfl, ?_⟩
      exact ite2 (fun z => absurd z (by decide)) fun _ => ⟨⟨_, _, _, rfl⟩, sm2.trans (s3.trans s4)⟩
    · have hne : intsV [x, y] ≠ [] := fun z => by rw [z] at e0; exact absurd e0 (by decide)
      refine ite2 (fun z => absurd (of_decide_eq_true z) hne) fun _ => ?_
      refine ⟨_, rfl, (by show 0 ≤ sizeLine; decide), fun e2' he2 => ?_⟩
      have s4 := same_new he2 (.lst [])
      refine .inl ⟨D2, e2', intsV [x, y], [], rfl, rfl, SqL.of (s4 _ _ (s3 _ _ xD)), SqL.of upd_same, _, rfl, ?_⟩
      have s34 := sm2.trans (s3.trans s4)
      refine and_way ⟨⟨_, _, _, rfl⟩, s34⟩ fun _ n => ?_
      obtain ⟨M, eM⟩ : ∃ M, lessV x y = .int M := by
        rcases nx with rfl | ⟨i', rfl⟩
        · rcases ny with rfl | ⟨j', rfl⟩
          · exact absurd rfl hne
          · exact ⟨_, rfl⟩
        · rcases ny with rfl | ⟨j', rfl⟩
          · exact ⟨_, rfl⟩
          · exact ⟨_, rfl⟩
      rw [eM] at hatn el
      refine ⟨_, rfl, _, rfl, nd, _, _, _, rfl, rfl, SqT.of (s34 _ _ xnd), hatn, M, rfl, true, rfl, iteF ?_⟩
      refine ⟨_, rfl, _, rfl, nd, _, _, _, rfl, rfl, SqT.of (s34 _ _ xnd), hatn, _, rfl, D2, intsV [x, y], rfl, SqL.of (s4 _ _ (s3 _ _ xD)), e0, fun M' hM' => ?_⟩
      have : M = M' := V.int.inj (el M' hM')
      subst this
      exact ⟨rfl, _, rfl, iteNS rfl n⟩
  · rintro σ Y ⟨_, sm⟩
    exact q _ sm

def sp_walked : Sp := fun vs H Q _ => ∃ (bl p : Addr) (ds : List Int), vs = [.ref bl, .ref p] ∧ H bl = some (.lst ((packs (brk ds 0)).map V.int)) ∧ H p = some (.lst (ds.map V.int)) ∧ GoodD ds ∧ ds.length ≤ 2048 ∧
  ∀ (r o l : Addr) (lows : List Int) (H' : Hp), Same H H' → H' r = some (.tup [.ref o, .ref l]) → H' o = some (.lst ((ahd (brk ds 0) (many (brk ds 0).length)).map V.int)) → H' l = some (.lst (lows.map V.int)) → Lows (brk ds 0) lows → Q (.ref r) H'
theorem ok_law_walked (T : Tx K mg a) : FnOk P w K mg base CX0 1 a.f_law_walked a.fd_law_walked ["_law_blocks", "_law_depths_here"] sp_walked := by
  refine T.D_law_walked.F.ok sc_law_walked (fun vs H Q E h => ?_) (fun cdv A outer s H vs Q E hr h => ?_)
  · obtain ⟨bl, p, ds, rfl, _⟩ := h
    rfl
  obtain ⟨bl, p, ds, rfl, xb, xp, hg, hn, q⟩ := h
  refine ⟨_, (pss_cons (ps_set (i := 2) sc_law_walked.nd rfl (Or.inl rfl) (pe_lst (pa_cons pe_int pa_nil)))
    (pss_cons (ps_set (i := 3) sc_law_walked.nd rfl (Or.inl rfl) (pe_lst pa_nil))
    (pss_cons (ps_set (i := 4) sc_law_walked.nd rfl (Or.inl rfl) pe_int)
    (pss_cons (ps_set (i := 5) sc_law_walked.nd rfl (Or.inl rfl) pe_int)
    (pss_cons (ps_for PassesOwn.never rfl (pi_range1 rfl T.b_range (pa_cons (pe_callB call_len_seq rfl T.b_len Tw.bt_len (pa_cons (pv 0) pa_nil)) pa_nil)) (pg_name (i := 6) sc_law_walked.nd rfl (Or.inl rfl)) (pss_cons (ps_set (i := 7) sc_law_walked.nd rfl (Or.inl rfl) (pe_ix ix_list (pv 0) (pv 6) (fun _ _ => rfl)))
    (pss_cons (ps_set (i := 8) sc_law_walked.nd rfl (Or.inl rfl) (pe_callB call_len_seq rfl T.b_len Tw.bt_len (pa_cons (pv 1) pa_nil)))
    (pss_cons (ps_for PassesOwn.never rfl (pi_range2 rfl T.b_range (pa_cons (pe_op op_mul pe_int (pv 6)) (pa_cons (pe_callB (call_min2 rfl) rfl T.b_min Tw.bt_min (pa_cons (pe_op op_add (pe_op op_mul pe_int (pv 6)) pe_int) (pa_cons (pe_op op_mul pe_int (pe_callB call_len_seq rfl T.b_len Tw.bt_len (pa_cons (pv 1) pa_nil))) pa_nil))) pa_nil))) (pg_name (i := 9) sc_law_walked.nd rfl (Or.inl rfl)) (pss_cons (ps_if (pt_cmpR op_eq (pe_op op_mod (pv 7) pe_int) pe_int (nomark _)) (pss_cons (ps_if (PW.pt (pw_or (pt_cmpR op_eq (pv 5) (pe_callB call_len_seq rfl T.b_len Tw.bt_len (pa_cons (pv 1) pa_nil)) (nomark _)) (pw_or1 (pt_cmpR op_ne (pe_ix ix_list (pv 1) (pv 5) (fun _ _ => rfl)) (pv 4) (nomark _))))) (pss_one (ps_ret (pe_tup (pa_cons (pe_lst pa_nil) (pa_cons (pe_lst pa_nil) pa_nil))))) pss_nil)
    (pss_one (ps_set (i := 5) sc_law_walked.nd rfl (Or.inl rfl) (pe_op op_add (pv 5) pe_int)))) pss_nil)
    (pss_cons (ps_set (i := 4) sc_law_walked.nd rfl (Or.inl rfl) (pe_op op_sub (pe_op op_add (pv 4) (pe_op op_mul pe_int (pe_op op_mod (pv 7) pe_int))) pe_int))
    (pss_cons (ps_set (i := 8) sc_law_walked.nd rfl (Or.inl rfl) (pe_callB (call_min2 rfl) rfl T.b_min Tw.bt_min (pa_cons (pv 8) (pa_cons (pv 4) pa_nil))))
    (pss_one (ps_set (i := 7) sc_law_walked.nd rfl (Or.inl rfl) (pe_op op_fdiv (pv 7) pe_int)))))))
    (pss_cons (ps_if (pt_cmpR op_ne (pv 7) pe_int (nomark _)) (pss_one (ps_ret (pe_tup (pa_cons (pe_lst pa_nil) (pa_cons (pe_lst pa_nil) pa_nil))))) pss_nil)
    (pss_cons (ps_expr (pe_bm PySem.F.plainAttrs_list PySem.F.slot_list_append PySem.F.type_list_append mt_append (pv 2) (pa_cons (pv 5) pa_nil)))
    (pss_one (ps_expr (pe_bm PySem.F.plainAttrs_list PySem.F.slot_list_append PySem.F.type_list_append mt_append (pv 3) (pa_cons (pv 8) pa_nil))))))))))
    (pss_one (ps_ret (pe_tup (pa_cons (pv 2) (pa_cons (pv 3) pa_nil)))))))))), ?_⟩
  have ern : (ds.map V.int).length = ds.length := List.length_map ..
  have hlen := brk_len hg
  have hb := isBits_brk ds 0
  have hnext := fun k hk => brk_next hg (k := k) hk
  have hlow := fun j k m => LowTo.low hg (j := j) (k := k) (m := m)
  generalize brk ds 0 = bs at *
  have hm : many bs.length ≤ 128 := by
    unfold many
    omega
  refine ⟨(by show 1 ≤ sizeLine; decide), fun o ho => ?_⟩
  have s1 := same_new ho (.lst [.int 0])
  refine ⟨(by show 0 ≤ sizeLine; decide), fun l hl' => ?_⟩
  have s2 := s1.trans (same_new hl' (.lst []))
  have ne : o ≠ l := ne_of_none upd_same hl'
  have hl0 : H l = none := s1.free hl'
  refine ⟨_, rfl, bl, _, rfl, .inl (SqL.of (s2 _ _ xb)), ((many bs.length : Nat) : Int), ?_, by omega, by omega, ?_⟩
  · rw [List.length_map, packs_length]
  rw [Int.toNat_natCast]
  refine for_range (n := many bs.length) (fun i σ X => (∃ k6 k7 k8 k9, σ = [some (.ref bl), some (.ref p), some (.ref o), some (.ref l), some (.int (ht bs (min (32 * i) bs.length))), some (.int (bs.take (32 * i)).sum), k6, k7, k8, k9]) ∧ Same H X ∧ X o = some (.lst ((ahd bs i).map V.int)) ∧ ∃ ls : List Int, X l = some (.lst (ls.map V.int)) ∧ ls.length = i ∧ ∀ j m, ls[j]? = some m → LowAt bs j m) ⟨⟨none, none, none, none, ?_⟩, s2, ?_, [], ?_, rfl, fun j m e => by cases e⟩ ?_ ?_
  · rw [show min (32 * 0) bs.length = 0 from by omega, ht_zero]
    rfl
  · rw [upd_ne ne, upd_same, ahd_zero]
    rfl
  · rw [upd_same]
    rfl
  · rintro i σ X hi ⟨⟨k6, k7, k8, k9, rfl⟩, sm, xo, ls, xl, hll, hR⟩
    have hin : 32 * i < bs.length := by
      unfold many at hi
      omega
    have h1 : atI ((packs bs).map V.int) (0 + (i : Int)) = some (.int (blkAt bs i)) := by
      rw [Int.zero_add]
      exact atI_int (packs_get hi)
    refine ⟨_, rfl, _, rfl, bl, _, _, _, rfl, rfl, SqL.of (sm _ _ xb), h1, ?_⟩
    refine ⟨_, rfl, p, _, rfl, .inl (SqL.of (sm _ _ xp)), ?_⟩
    have hw32 : wide bs.length i ≤ 32 ∧ 32 * i + wide bs.length i ≤ bs.length := by
      unfold wide
      omega
    refine ⟨_, rfl, _, _, rfl, rfl, .inl ⟨by decide, by decide⟩, _, rfl, _, _, rfl, rfl, .inl ⟨by decide, by decide⟩, _, _, rfl, rfl, _, rfl, p, _, rfl, .inl (SqL.of (sm _ _ xp)), _, _, rfl, rfl, .inl ⟨by decide, by decide⟩, _, _, rfl, ((32 * i : Nat) : Int), ((32 * i + wide bs.length i : Nat) : Int), ?_, ⟨by omega, by omega, by omega, by omega⟩, ?_⟩
    · have ea : 32 * (0 + (i : Int)) = ((32 * i : Nat) : Int) := by omega
      have eb : (if 2 * ((ds.map V.int).length : Int) < 32 * (0 + (i : Int)) + 32 then 2 * ((ds.map V.int).length : Int) else 32 * (0 + (i : Int)) + 32) = ((32 * i + wide bs.length i : Nat) : Int) := by
        rw [ern]
        unfold wide
        split <;> omega
      show [V.int (32 * (0 + (i : Int))), V.int (if 2 * ((ds.map V.int).length : Int) < 32 * (0 + (i : Int)) + 32 then 2 * ((ds.map V.int).length : Int) else 32 * (0 + (i : Int)) + 32)] = _
      rw [eb, ea]
    rw [show (((32 * i + wide bs.length i : Nat) : Int) - ((32 * i : Nat) : Int)).toNat = wide bs.length i from by omega]
    refine for_range (lo := ((32 * i : Nat) : Int)) (n := wide bs.length i) (fun k σ Y => (∃ (m : Int) (k9 : Option V), σ = [some (.ref bl), some (.ref p), some (.ref o), some (.ref l), some (.int (ht bs (32 * i + k))), some (.int (bs.take (32 * i + k)).sum), some (.int (0 + (i : Int))), some (.int (blkAt bs i / 2 ^ k)), some (.int m), k9] ∧ LowTo bs ds.length i k m) ∧ Y = X) ⟨⟨(ds.length : Int), k9, ?_, LowTo.zero _ _ _⟩, rfl⟩ ?_ ?_
    · rw [Nat.min_eq_left (Nat.le_of_lt hin), ern, Int.pow_zero, Int.ediv_one]
      rfl
    · rintro k σ Y hk ⟨⟨m, k9, rfl, hlo⟩, rfl⟩
      have hk1 : 32 * i + k < bs.length := by omega
      have ebit : blkAt bs i / 2 ^ k % 2 = (bs[32 * i + k]?).getD 0 := bit_at hb i k (by omega)
      have e7 := half_half (blkAt bs i) k
      rcases hnext _ hk1 with ⟨e0, _⟩ | ⟨e0, nd, en, hnd, hd⟩
      · rw [e0] at ebit
        have ebit : blkAt bs i / 2 ^ k % 2 = 0 := ebit
        have e4 : ht bs (32 * i + k) + 2 * (blkAt bs i / 2 ^ k % 2) - 1 = ht bs (32 * i + (k + 1)) := by
          rw [ebit]
          exact (ht_succ e0).symm
        have e5 : (bs.take (32 * i + k)).sum = (bs.take (32 * i + (k + 1))).sum := by
          have := sum_snoc e0
          rw [Int.add_zero] at this
          exact this.symm
        refine ⟨_, rfl, _, _, rfl, rfl, (by show (0 : Int) < 2; decide), rfl, _, rfl, ite2 (fun c => ?_) fun _ => ?_⟩
        · have c : V.int (blkAt bs i / 2 ^ k % 2) = V.int 1 := of_decide_eq_true c
          injection c with c
          omega
        refine ⟨_, rfl, _, rfl, _, _, rfl, rfl, (by show (0 : Int) < 2; decide), _, _, rfl, rfl, .inl ⟨by decide, by decide⟩, _, _, rfl, rfl, _, _, rfl, rfl, ?_⟩
        refine ⟨_, rfl, _, rfl, _, _, rfl, ?_⟩
        refine ⟨_, rfl, _, _, rfl, rfl, ⟨by decide, by decide⟩, ⟨if ht bs (32 * i + (k + 1)) < m then ht bs (32 * i + (k + 1)) else m, some (.int (((32 * i : Nat) : Int) + (k : Int))), ?_, hlo.step⟩, rfl⟩
        rw [← e4, ← e7, ← e5]
        rfl
      · rw [e0] at ebit
        have ebit : blkAt bs i / 2 ^ k % 2 = 1 := ebit
        have e4 : ht bs (32 * i + k) + 2 * (blkAt bs i / 2 ^ k % 2) - 1 = ht bs (32 * i + (k + 1)) := by
          rw [ebit]
          exact (ht_succ e0).symm
        have e5 : (bs.take (32 * i + k)).sum + 1 = (bs.take (32 * i + (k + 1))).sum := (sum_snoc e0).symm
        refine ⟨_, rfl, _, _, rfl, rfl, (by show (0 : Int) < 2; decide), rfl, _, rfl, ite2 (fun _ => ?_) fun c => absurd (decide_eq_true (congrArg V.int ebit)) c⟩
        refine ⟨_, rfl, _, rfl, p, _, rfl, .inl (SqL.of (sm _ _ xp)), rfl, _, rfl, ite2 (fun c => ?_) fun _ => ?_⟩
        · have c : V.int (bs.take (32 * i + k)).sum = V.int ((ds.map V.int).length : Int) := of_decide_eq_true c
          injection c with c
          rw [ern] at c
          omega
        have hat : atI (ds.map V.int) (bs.take (32 * i + k)).sum = some (.int (ht bs (32 * i + k))) := by
          rw [en]
          exact atI_int hd
        refine ⟨_, rfl, _, rfl, p, _, _, _, rfl, rfl, SqL.of (sm _ _ xp), hat, _, rfl, rfl, _, rfl, iteNS rfl ?_⟩
        refine ⟨_, rfl, _, _, rfl, rfl, ?_⟩
        refine ⟨_, rfl, _, rfl, _, _, rfl, rfl, (by show (0 : Int) < 2; decide), _, _, rfl, rfl, .inl ⟨by decide, by decide⟩, _, _, rfl, rfl, _, _, rfl, rfl, ?_⟩
        refine ⟨_, rfl, _, rfl, _, _, rfl, ?_⟩
        refine ⟨_, rfl, _, _, rfl, rfl, ⟨by decide, by decide⟩, ⟨if ht bs (32 * i + (k + 1)) < m then ht bs (32 * i + (k + 1)) else m, some (.int (((32 * i : Nat) : Int) + (k : Int))), ?_, hlo.step⟩, rfl⟩
        rw [← e4, ← e7, ← e5]
        rfl
    · rintro σ Y ⟨⟨m, k9, rfl, hlo⟩, rfl⟩
      have hz : blkAt bs i / 2 ^ wide bs.length i = 0 := by
        have hsb := seg_bits hb i
        have hl2 : ((bs.drop (32 * i)).take 32).length = wide bs.length i := by
          rw [List.length_take, List.length_drop]
          rfl
        rw [← hl2]
        exact Int.ediv_eq_zero_of_lt (blk_nonneg hsb) (blk_lt hsb)
      refine ⟨_, rfl, rfl, _, rfl, iteNS (congrArg V.int hz) ?_⟩
      refine ⟨_, rfl, .inl ⟨rfl, _, SqL.of xo⟩, _, rfl, o, _, _, rfl, rfl, xo, ?_, ?_⟩
      · rw [List.length_map, ahd_length]
        exact small (by omega)
      have e5 : (bs.take (32 * i + wide bs.length i)).sum = (bs.take (32 * (i + 1))).sum := by
        rcases Nat.lt_or_ge bs.length (32 * (i + 1)) with z | z
        · rw [List.take_of_length_le (show bs.length ≤ 32 * i + wide bs.length i by unfold wide; omega), List.take_of_length_le (by omega)]
        · rw [show 32 * i + wide bs.length i = 32 * (i + 1) from by unfold wide; omega]
      have e4 : 32 * i + wide bs.length i = min (32 * (i + 1)) bs.length := by
        unfold wide
        omega
      have xo2 : upd Y o (.lst ((ahd bs i).map V.int ++ [.int (bs.take (32 * i + wide bs.length i)).sum])) o = some (.lst ((ahd bs (i + 1)).map V.int)) := by
        rw [upd_same, ahd_succ, List.map_append, e5]
        rfl
      have xl2 : upd Y o (.lst ((ahd bs i).map V.int ++ [.int (bs.take (32 * i + wide bs.length i)).sum])) l = some (.lst (ls.map V.int)) := by
        rw [upd_ne ne.symm]
        exact xl
      have sm2 := same_set sm ho (.lst ((ahd bs i).map V.int ++ [.int (bs.take (32 * i + wide bs.length i)).sum]))
      generalize upd Y o (.lst ((ahd bs i).map V.int ++ [.int (bs.take (32 * i + wide bs.length i)).sum])) = Y2 at *
      refine ⟨_, rfl, .inl ⟨rfl, _, SqL.of xl2⟩, _, rfl, l, _, _, rfl, rfl, xl2, ?_, ?_⟩
      · rw [List.length_map, hll]
        exact small (by omega)
      refine ⟨⟨some (.int (0 + (i : Int))), some (.int (blkAt bs i / 2 ^ wide bs.length i)), some (.int m), k9, ?_⟩, same_set sm2 hl0 _, ?_, ls ++ [m], ?_, ?_, ?_⟩
      · rw [← e5, ← e4]
      · rw [upd_ne ne]
        exact xo2
      · rw [upd_same, List.map_append]
        rfl
      · rw [List.length_append, hll]
        rfl
      · intro j m' e
        rcases Nat.lt_or_ge j ls.length with z | z
        · rw [List.getElem?_append_left z] at e
          exact hR j m' e
        · rw [List.getElem?_append_right z] at e
          have : j - ls.length = 0 := by
            have := (List.getElem?_eq_some_iff.mp e).1
            simp at this
            omega
          rw [this] at e
          cases e
          have : j = i := by omega
          subst this
          exact hlow _ _ _ hlo rfl hin
  · rintro σ X ⟨⟨k6, k7, k8, k9, rfl⟩, sm, xo, ls, xl, hll, hR⟩
    refine ⟨_, rfl, _, rfl, (by show 2 ≤ sizeLine; decide), fun r hr' => ?_⟩
    have s3 := same_new hr' (.tup [.ref o, .ref l])
    exact q r o l ls _ (sm.trans s3) upd_same (s3 _ _ xo) (s3 _ _ xl) ⟨hll, hR⟩

def sp_good : Sp := fun vs H Q _ => ∃ (r t ah nd bl p : Addr) (ds lows : List Int) (S : Nat) (xs : List V), vs = [.ref r, .ref p] ∧ H r = some (.tup [.ref t, .ref bl]) ∧ KB H t ah nd bl (brk ds 0) lows S xs ∧ H p = some (.lst (ds.map V.int)) ∧ GoodD ds ∧ ds.length ≤ 2048 ∧ ∀ H', Same H H' → Q (.bl true) H'
theorem ok_law_good (T : Tx K mg a) : FnOk P w K mg base CX0 3 a.f_law_good a.fd_law_good ["_law_found", "_law_depths_here"] sp_good := by
  refine T.D_law_good.F.ok sc_law_good (fun vs H Q E h => ?_) (fun cdv A outer s H vs Q E hr h => ?_)
  · obtain ⟨r, t, ah, nd, bl, p, ds, lows, S, xs, rfl, _⟩ := h
    rfl
  obtain ⟨r, t, ah, nd, bl, p, ds, lows, S, xs, rfl, xr, kb, xp, hg, hn, q⟩ := h
  refine ⟨_, (pss_cons (ps_if (PW.pt (pw_or (pt_not (pt_val (pe_callB call_isi rfl T.b_isinstance Tw.bt_isinstance (pa_cons (pv 0) (pa_cons (pe_bltn (v := .ty "tuple") rfl T.b_tuple Tw.bt_tuple rfl) pa_nil))))) (pw_or (pt_cmpR op_ne (pe_callB call_len_seq rfl T.b_len Tw.bt_len (pa_cons (pv 0) pa_nil)) pe_int (nomark _)) (pw_or1 (pt_not (pt_val (pe_callB call_isi rfl T.b_isinstance Tw.bt_isinstance (pa_cons (pe_ix ix_tup (pv 0) pe_int (fun _ _ => rfl)) (pa_cons (pe_bltn (v := .ty "list") rfl T.b_list Tw.bt_list rfl) pa_nil))))))))) (pss_one (ps_ret pe_bl)) pss_nil)
    (pss_cons (ps_asg (pv 0) (pg_tup rfl (pgs_cons (pg_name (i := 2) sc_law_good.nd rfl (Or.inl rfl)) (pgs_cons (pg_name (i := 3) sc_law_good.nd rfl (Or.inl rfl)) pgs_nil))))
    (pss_cons (ps_if (PW.pt (pw_or (pt_cmpR op_ne (pe_callB call_len_seq rfl T.b_len Tw.bt_len (pa_cons (pv 3) pa_nil)) (pe_op op_fdiv (pe_op op_add (pe_op op_mul pe_int (pe_callB call_len_seq rfl T.b_len Tw.bt_len (pa_cons (pv 1) pa_nil))) pe_int) pe_int) (nomark _)) (pw_or (pt_not (pt_val (pe_callB call_isi rfl T.b_isinstance Tw.bt_isinstance (pa_cons (pv 2) (pa_cons (pe_bltn (v := .ty "tuple") rfl T.b_tuple Tw.bt_tuple rfl) pa_nil))))) (pw_or1 (pt_cmpR op_ne (pe_callB call_len_seq rfl T.b_len Tw.bt_len (pa_cons (pv 2) pa_nil)) pe_int (nomark _)))))) (pss_one (ps_ret pe_bl)) pss_nil)
    (pss_cons (ps_if (pt_cmpR op_gt (pe_callB call_len_seq rfl T.b_len Tw.bt_len (pa_cons (pe_comp rfl CompOk.zero (pi_list (pv 3)) (fun _ _ _ _ => (pts_one (PW.pt (pw_or (pt_not (pt_val (pe_call ((ok_law_whole T).mono (by decide)) hr rfl T.D_law_whole.m T.D_law_whole.F.kp T.D_law_whole.b .nil pass0 (pa_cons (pv 0) pa_nil)))) (pw_or1 (pt_cmpR op_lt (pv 0) pe_int (nomark _))))))) (fun _ _ _ _ => (pv 0))) pa_nil)) pe_int (nomark _)) (pss_one (ps_ret pe_bl)) pss_nil)
    (pss_cons (ps_asg (pe_call ((ok_law_walked T).mono (by decide)) hr rfl T.D_law_walked.m T.D_law_walked.F.kp T.D_law_walked.b .nil pass0 (pa_cons (pv 3) (pa_cons (pv 1) pa_nil))) (pg_tup rfl (pgs_cons (pg_name (i := 4) sc_law_good.nd rfl (Or.inl rfl)) (pgs_cons (pg_name (i := 5) sc_law_good.nd rfl (Or.inl rfl)) pgs_nil))))
    (pss_cons (ps_if (PW.pt (pw_or (pt_cmpR (op_eqD hr.units) (pv 4) (pe_lst pa_nil) (nomark _)) (pw_or (pt_cmpR op_ne (pe_ix ix_list (pv 4) (pe_un un_neg pe_int) (fun _ _ => rfl)) (pe_callB call_len_seq rfl T.b_len Tw.bt_len (pa_cons (pv 1) pa_nil)) (nomark _)) (pw_or1 (pt_not (pt_val (pe_callB call_isi rfl T.b_isinstance Tw.bt_isinstance (pa_cons (pe_ix ix_tup (pv 2) pe_int (fun _ _ => rfl)) (pa_cons (pe_bltn (v := .ty "tuple") rfl T.b_tuple Tw.bt_tuple rfl) pa_nil))))))))) (pss_one (ps_ret pe_bl)) pss_nil)
    (pss_cons (ps_if (PW.pt (pw_or (pt_cmpR op_gt (pe_callB call_len_seq rfl T.b_len Tw.bt_len (pa_cons (pe_comp rfl CompOk.zero (pi_tup (pe_ix ix_tup (pv 2) pe_int (fun _ _ => rfl))) (fun _ _ _ _ => (pts_one (pt_not (pt_val (pe_call ((ok_law_whole T).mono (by decide)) hr rfl T.D_law_whole.m T.D_law_whole.F.kp T.D_law_whole.b .nil pass0 (pa_cons (pv 0) pa_nil)))))) (fun _ _ _ _ => (pv 0))) pa_nil)) pe_int (nomark _)) (pw_or1 (pt_cmpR (op_neD hr.units) (pe_callTy call_list_of rfl T.b_list Tw.bt_list (pa_cons (pe_ix ix_tup (pv 2) pe_int (fun _ _ => rfl)) pa_nil)) (pv 4) (nomark _))))) (pss_one (ps_ret pe_bl)) pss_nil)
    (pss_one (ps_ret (pe_and (pe_call ((ok_law_whole T).mono (by decide)) hr rfl T.D_law_whole.m T.D_law_whole.F.kp T.D_law_whole.b .nil pass0 (pa_cons (pe_ix ix_tup (pv 2) pe_int (fun _ _ => rfl)) pa_nil)) (pe_and (pe_cmpR op_eq (pe_ix ix_tup (pv 2) pe_int (fun _ _ => rfl)) (pe_op op_mul pe_int (pe_callB call_len_seq rfl T.b_len Tw.bt_len (pa_cons (pv 1) pa_nil))) (nomark _)) (pe_one (pe_call ((ok_law_heap T).mono (by decide)) hr rfl T.D_law_heap.m T.D_law_heap.F.kp T.D_law_heap.b .nil pass0 (pa_cons (pe_ix ix_tup (pv 2) pe_int (fun _ _ => rfl)) (pa_cons (pv 5) pa_nil))))))))))))))), ?_⟩
  have ern : (ds.map V.int).length = ds.length := List.length_map ..
  have hlen := brk_len hg
  have hm : many (brk ds 0).length ≤ 128 := by
    unfold many
    omega
  refine ⟨_, rfl, _, "tuple", _, true, rfl, .tup xr, rfl, true, rfl, iteF ?_⟩
  refine ⟨_, rfl, r, _, rfl, .inr (SqT.of xr), rfl, _, rfl, iteNS rfl ?_⟩
  refine ⟨_, rfl, r, _, _, _, rfl, rfl, SqT.of xr, rfl, _, "list", _, true, rfl, .lst kb.bls, rfl, true, rfl, iteF ?_⟩
  refine ⟨_, rfl, r, _, rfl, SqT.of xr, rfl, _, _, rfl, _, _, rfl, rfl, ?_⟩
  refine ⟨_, rfl, bl, _, rfl, .inl (SqL.of kb.bls), _, rfl, p, _, rfl, .inl (SqL.of xp), _, _, rfl, rfl, .inl ⟨by decide, by decide⟩, _, _, rfl, rfl, _, _, rfl, rfl, ⟨by decide, by decide⟩, rfl, _, rfl, iteNS (congrArg V.int ?_) ?_⟩
  · rw [List.length_map, packs_length, hlen, ern]
    unfold many
    omega
  refine ⟨_, rfl, _, "tuple", _, true, rfl, .tup kb.tab.tup, rfl, true, rfl, iteF ?_⟩
  refine ⟨_, rfl, t, _, rfl, .inr (SqT.of kb.tab.tup), rfl, _, rfl, iteNS rfl ?_⟩
  refine ⟨_, rfl, bl, rfl, ⟨_, SqL.of kb.bls⟩, ?_⟩
  refine comp_filtS (fun z => decide (z < 0)) (SqL.of kb.bls) (by rw [packs_length, sizeLine_eq]; omega) (fun z H' Q sm q => ⟨_, rfl, z, rfl, true, rfl, iteF ⟨_, rfl, _, _, rfl, rfl, _, rfl, q⟩⟩) (fun z H' Q sm q => ⟨_, rfl, q⟩) fun D hD => ?_
  have ef : (packs (brk ds 0)).filter (fun z => decide (z < 0)) = [] := by
    refine List.filter_eq_nil_iff.mpr fun z hz => ?_
    obtain ⟨j, hj⟩ := List.getElem?_of_mem hz
    have hj1 := (List.getElem?_eq_some_iff.mp hj).1
    rw [packs_length] at hj1
    rw [packs_get hj1] at hj
    cases hj
    have := blk_nonneg (seg_bits (isBits_brk ds 0) j)
    unfold blkAt
    simp
    omega
  rw [ef]
  have u1 := same_new hD (.lst (([] : List Int).map V.int))
  have xD : upd H D (.lst (([] : List Int).map V.int)) D = some (.lst (([] : List Int).map V.int)) := upd_same
  generalize upd H D (.lst (([] : List Int).map V.int)) = H1 at *
  refine ⟨D, _, rfl, .inl (SqL.of xD), _, _, rfl, rfl, _, rfl, ite2 (fun z => absurd z (by decide)) fun _ => ?_⟩
  refine ⟨_, rfl, _, rfl, bl, p, ds, rfl, u1 _ _ kb.bls, u1 _ _ xp, hg, hn, fun r2 o l lows2 H2 s2 xr2 xo xl hLo => ?_⟩
  have sA := u1.trans s2
  refine ⟨r2, _, rfl, SqT.of xr2, rfl, _, _, rfl, _, _, rfl, rfl, ?_⟩
  refine ⟨_, rfl, (by show 0 ≤ sizeLine; decide), fun e1 he1 => ?_⟩
  have s3 := same_new he1 (.lst [])
  have hal : (ahd (brk ds 0) (many (brk ds 0).length)).length = many (brk ds 0).length + 1 := ahd_length _ _
  refine .inl ⟨o, e1, _, [], rfl, rfl, SqL.of (s3 _ _ xo), SqL.of upd_same, _, rfl, ite2 (fun z => ?_) fun _ => ?_⟩
  · have z := of_decide_eq_true z
    rw [z] at hal
    simp at hal
  have sB := sA.trans s3
  have hat : atI ((ahd (brk ds 0) (many (brk ds 0).length)).map V.int) (-1) = some (.int (ds.length : Int)) := by
    have h0 : 0 < many (brk ds 0).length := by
      have := (List.getElem?_eq_some_iff.mp hg.1).1
      unfold many
      omega
    obtain ⟨j, ej⟩ : ∃ j, many (brk ds 0).length = j + 1 := ⟨many (brk ds 0).length - 1, by omega⟩
    rw [ej, ahd_succ, List.map_append, ← ej, brk_sum hg (by unfold many; omega)]
    exact atI_last _ _
  refine ⟨_, rfl, _, rfl, o, _, _, _, rfl, rfl, SqL.of (s3 _ _ xo), hat, _, rfl, p, _, rfl, .inl (SqL.of (sB _ _ xp)), rfl, _, rfl, iteNS (congrArg V.int (by rw [ern])) ?_⟩
  refine ⟨_, rfl, t, _, _, _, rfl, rfl, SqT.of (sB _ _ kb.tab.tup), rfl, _, "tuple", _, true, rfl, .tup (sB _ _ kb.tab.ahs), rfl, true, rfl, iteF ?_⟩
  refine ⟨_, rfl, t, _, _, _, rfl, rfl, SqT.of (sB _ _ kb.tab.tup), rfl, ah, rfl, ⟨_, SqT.of (sB _ _ kb.tab.ahs)⟩, ?_⟩
  refine comp_filtT (fun _ => false) (sB _ _ kb.tab.ahs) (by rw [hal, sizeLine_eq]; omega) (fun z H' Q sm q => ⟨_, rfl, z, rfl, true, rfl, q⟩) (fun z H' Q sm q => ⟨_, rfl, q⟩) fun D2 hD2 => ?_
  rw [List.filter_eq_nil_iff.mpr fun z hz => by simp]
  have u4 := same_new hD2 (.lst (([] : List Int).map V.int))
  have xD2 : upd (upd H2 e1 (.lst [])) D2 (.lst (([] : List Int).map V.int)) D2 = some (.lst (([] : List Int).map V.int)) := upd_same
  have sC := sB.trans u4
  have xo4 := u4 _ _ (s3 _ _ xo)
  have xl4 := u4 _ _ (s3 _ _ xl)
  generalize upd (upd H2 e1 (.lst [])) D2 (.lst (([] : List Int).map V.int)) = H4 at *
  refine ⟨D2, _, rfl, .inl (SqL.of xD2), _, _, rfl, rfl, _, rfl, ite2 (fun z => absurd z (by decide)) fun _ => ?_⟩
  refine ⟨_, rfl, t, _, _, _, rfl, rfl, SqT.of (sC _ _ kb.tab.tup), rfl, ah, _, rfl, .inr (SqT.of (sC _ _ kb.tab.ahs)), fun c hc => ?_⟩
  have s5 := same_new hc (.lst ((ahd (brk ds 0) (many (brk ds 0).length)).map V.int))
  refine ⟨_, rfl, .inl ⟨c, o, _, _, rfl, rfl, SqL.of upd_same, SqL.of (s5 _ _ xo4), _, rfl, iteNS rfl ?_⟩⟩
  have sD := sC.trans s5
  refine ⟨_, rfl, t, _, _, _, rfl, rfl, SqT.of (sD _ _ kb.tab.tup), rfl, ((brk ds 0).length : Int), rfl, true, rfl, iteT ?_⟩
  refine ⟨_, rfl, t, _, _, _, rfl, rfl, SqT.of (sD _ _ kb.tab.tup), rfl, _, rfl, p, _, rfl, .inl (SqL.of (sD _ _ xp)), _, _, rfl, rfl, .inl ⟨by decide, by decide⟩, rfl, _, rfl, ?_⟩
  rw [decide_eq_true (show V.int ((brk ds 0).length : Int) = V.int (2 * ((ds.map V.int).length : Int)) from congrArg V.int (by rw [ern]; omega))]
  refine iteT ?_
  have e2 : lows2 = lows := hLo.uniq kb.low
  subst e2
  refine ⟨_, rfl, t, _, _, _, rfl, rfl, SqT.of (sD _ _ kb.tab.tup), rfl, _, rfl, nd, l, lows2, S, xs, rfl, sD _ _ kb.nds, s5 _ _ xl4, ?_, kb.sz, kb.heap, fun H6 s6 => q _ (sD.trans s6)⟩
  rw [hLo.len]
  omega

def sp_depths (K : PySem.W.Frag) : Sp := fun vs H Q _ => ∃ (p : Addr) (zs : List Int), vs = [.ref p] ∧ SqL K H p (zs.map V.int) ∧ zs.length ≤ 63 ∧ ∀ (r : Addr) (H' : Hp) (ds : List Int), H r = none → Same H H' → H' r = some (.lst (ds.map V.int)) → GoodD ds → ds.length ≤ 640 → Q (.ref r) H'
theorem ok_law_depths (T : Tx K mg a) : FnOk P w K mg base CX0 1 a.f_law_depths a.fd_law_depths ["_law_script"] (sp_depths K) := by
  refine T.D_law_depths.F.ok sc_law_depths (fun vs H Q E h => ?_) (fun cdv A outer s H vs Q E hr h => ?_)
  · obtain ⟨p, zs, rfl, _⟩ := h
    rfl
  obtain ⟨p, zs, rfl, hS, hl, q⟩ := h
  refine ⟨_, (pss_cons (ps_set (i := 1) sc_law_depths.nd rfl (Or.inl rfl) (pe_lst (pa_cons pe_int pa_nil)))
    (pss_cons (ps_for PassesOwn.never rfl (pi_list (pe_slice sl_list (pv 0) po_none (po_some pe_int))) (pg_name (i := 2) sc_law_depths.nd rfl (Or.inl rfl)) (pss_cons (ps_set (i := 3) sc_law_depths.nd rfl (Or.inl rfl) (pe_op op_mod (pe_op op_mul (pv 2) pe_int) pe_int))
    (pss_cons (ps_set (i := 4) sc_law_depths.nd rfl (Or.inl rfl) (pe_op op_add pe_int (pe_op op_mod (pe_op op_fdiv (pv 3) pe_int) pe_int)))
    (pss_cons (ps_if (pt_cmpR op_eq (pe_op op_mod (pe_op op_fdiv (pv 3) pe_int) pe_int) pe_int (nomark _)) (pss_one (ps_set (i := 4) sc_law_depths.nd rfl (Or.inl rfl) (pe_op op_add pe_int (pe_op op_mod (pe_op op_fdiv (pv 3) pe_int) pe_int)))) pss_nil)
    (pss_cons (ps_set (i := 5) sc_law_depths.nd rfl (Or.inl rfl) (pe_op op_mod (pe_op op_fdiv (pv 3) pe_int) (pe_op op_add (pe_ix ix_list (pv 1) (pe_un un_neg pe_int) (fun _ _ => rfl)) pe_int)))
    (pss_one (ps_for PassesOwn.never rfl (pi_range1 rfl T.b_range (pa_cons (pe_callB (call_min2 rfl) rfl T.b_min Tw.bt_min (pa_cons (pv 4) (pa_cons (pe_op op_sub pe_int (pe_callB call_len_seq rfl T.b_len Tw.bt_len (pa_cons (pv 1) pa_nil))) pa_nil))) pa_nil)) (pg_name (i := 6) sc_law_depths.nd rfl (Or.inl rfl)) (pss_cons (ps_set (i := 7) sc_law_depths.nd rfl (Or.inl rfl) (pe_op op_add (pv 5) pe_int))
    (pss_cons (ps_if (pt_cmpR op_eq (pe_op op_mod (pv 3) pe_int) pe_int (nomark _)) (pss_one (ps_set (i := 7) sc_law_depths.nd rfl (Or.inl rfl) (pe_op op_add (pe_op op_add (pv 5) pe_int) (pv 6)))) pss_nil)
    (pss_cons (ps_if (pt_cmpR op_eq (pe_op op_mod (pv 3) pe_int) pe_int (nomark _)) (pss_one (ps_set (i := 7) sc_law_depths.nd rfl (Or.inl rfl) (pe_op op_add (pe_op op_add (pv 5) pe_int) (pe_op op_mod (pv 6) pe_int)))) pss_nil)
    (pss_cons (ps_if (pt_cmpR op_eq (pe_op op_mod (pv 3) pe_int) pe_int (nomark _)) (pss_one (ps_set (i := 7) sc_law_depths.nd rfl (Or.inl rfl) (pe_op op_add pe_int (pe_op op_mod (pe_op op_mod (pe_op op_mul (pe_op op_mul (pv 3) (pe_op op_add (pe_op op_mul pe_int (pv 6)) pe_int)) pe_int) pe_int) (pe_op op_add (pe_ix ix_list (pv 1) (pe_un un_neg pe_int) (fun _ _ => rfl)) pe_int))))) pss_nil)
    (pss_one (ps_expr (pe_bm PySem.F.plainAttrs_list PySem.F.slot_list_append PySem.F.type_list_append mt_append (pv 1) (pa_cons (pv 7) pa_nil)))))))))))))))
    (pss_one (ps_ret (pv 1))))), ?_⟩
  refine ⟨(by show 1 ≤ sizeLine; decide), fun r hr' => ?_⟩
  refine ⟨_, rfl, _, rfl, p, _, rfl, (same_new hr' _).seq hS, fun c hc => ⟨c, rfl, ⟨_, SqL.of upd_same⟩, ?_⟩⟩
  have ez : cutV (zs.map V.int) none (some 63) = zs.map V.int := by
    rw [show (63 : Int) = ((63 : Nat) : Int) from rfl, cut_to, List.take_of_length_le hl]
  rw [ez] at *
  have ne : r ≠ c := ne_of_none upd_same hc
  refine for_list (xs := zs.map V.int) (fun i σ H' => (∃ (k2 k4 k5 k6 k7 k8 : Option V), σ = [some (.ref p), some (.ref r), k2, k4, k5, k6, k7, k8]) ∧ Same H H' ∧ H' c = some (.lst (zs.map V.int)) ∧ ∃ (es : List Int) (la : Int), H' r = some (.lst ((es ++ [la]).map V.int)) ∧ GoodD (es ++ [la]) ∧ 0 ≤ la ∧ es.length + 1 ≤ 640) ?_ ?_ ?_ ?_
  · refine ⟨⟨none, none, none, none, none, none, rfl⟩, (same_new hr' _).trans (same_new hc _), upd_same, [], 0, ?_, GoodD.root, by decide, by decide⟩
    rw [upd_ne ne, upd_same]
    rfl
  · rintro i σ H' _ ⟨_, _, h, _⟩
    exact SqL.of h
  · rintro i x σ H' hx ⟨⟨k2, k4, k5, k6, k7, k8, rfl⟩, sm, hc1, es, la, hr1, hg, hla0, hn⟩
    obtain ⟨z, hz, rfl⟩ := int_at hx
    have hla : atI ((es ++ [la]).map V.int) (-1) = some (.int la) := by
      rw [List.map_append]
      exact atI_last _ _
    refine ⟨_, rfl, _, _, rfl, rfl, .inr ⟨by decide, by decide⟩, _, _, rfl, rfl, (by show (0 : Int) < 2147483647; decide), ?_⟩
    refine ⟨_, rfl, _, _, rfl, rfl, ⟨by decide, by decide⟩, _, _, rfl, rfl, (by show (0 : Int) < 10; decide), _, _, rfl, rfl, ?_⟩
    refine ⟨_, rfl, _, _, rfl, rfl, ⟨by decide, by decide⟩, _, _, rfl, rfl, (by show (0 : Int) < 8; decide), rfl, _, rfl, ?_⟩
    refine st_way (fun σ H2 => H2 = H' ∧ ∃ mn : Int, σ = [some (.ref p), some (.ref r), some (.int z), some (.int (z * 48271 % 2147483647)), some (.int mn), k6, k7, k8] ∧ 1 ≤ mn ∧ mn ≤ 90) ⟨rfl, _, rfl, by omega, by omega⟩ ?_ (fun _ m => ?_)
    rotate_left
    · refine ⟨_, rfl, _, _, rfl, rfl, ⟨by decide, by decide⟩, _, _, rfl, rfl, (by show (0 : Int) < 90; decide), _, _, rfl, rfl, ?_⟩
      exact m _ _ ⟨rfl, 1 + z * 48271 % 2147483647 / 32 % 90, rfl, by omega, by omega⟩
    rintro σ2 H2 ⟨rfl, mn, rfl, hm0, hm1⟩
    refine ⟨_, rfl, _, _, rfl, rfl, ⟨by decide, by decide⟩, _, rfl, _, rfl, r, _, _, _, rfl, rfl, SqL.of hr1, hla, _, _, rfl, rfl, _, _, rfl, rfl, (by show (0 : Int) < la + 1; omega), ?_⟩
    have b0 := Int.emod_nonneg (z * 48271 % 2147483647 / 2880) (show la + 1 ≠ 0 by omega)
    have b1 := Int.emod_lt_of_pos (z * 48271 % 2147483647 / 2880) (show (0 : Int) < la + 1 by omega)
    have hlen : ((es ++ [la]).map V.int).length = es.length + 1 := by
      rw [List.length_map, List.length_append]
      rfl
    refine ⟨_, rfl, _, rfl, r, _, rfl, .inl (SqL.of hr1), _, _, rfl, rfl, _, _, rfl, _, rfl, ?_, ?_, ?_⟩
    · rw [hlen]
      split <;> omega
    · rw [hlen]
      split <;> omega
    have hM : (if (640 : Int) - (((es ++ [la]).map V.int).length : Int) < mn then (640 : Int) - (((es ++ [la]).map V.int).length : Int) else mn).toNat + es.length + 1 ≤ 640 := by
      rw [hlen]
      split <;> omega
    refine for_range (fun j σ H3 => (∃ (up : Int) (k7 k8 : Option V), σ = [some (.ref p), some (.ref r), some (.int z), some (.int (z * 48271 % 2147483647)), some (.int mn), some (.int up), k7, k8] ∧ 0 ≤ up ∧ Same H H3 ∧ H3 c = some (.lst (zs.map V.int)) ∧ ∃ (fs : List Int) (lb : Int), H3 r = some (.lst ((fs ++ [lb]).map V.int)) ∧ GoodD (fs ++ [lb]) ∧ 0 ≤ lb ∧ fs.length = es.length + j ∧ (z * 48271 % 2147483647 % 4 ≠ 3 → up ≤ lb) ∧ (z * 48271 % 2147483647 % 4 = 1 → up + (j : Int) ≤ lb) ∧ (z * 48271 % 2147483647 % 4 = 2 → 1 ≤ j → up + 1 ≤ lb))) ?_ ?_ ?_
    · exact ⟨_, _, _, rfl, b0, sm, hc1, es, la, hr1, hg, hla0, rfl, fun _ => by omega, fun _ => by omega, fun _ z => by omega⟩
    · rintro j σ H3 hj ⟨up, k7, k8, rfl, hu0, sm3, hc3, fs, lb, hr3, hg3, hlb0, hfl, g0, g1, g2⟩
      have hj' : j + es.length + 1 < 640 := by omega
      have hlb : atI ((fs ++ [lb]).map V.int) (-1) = some (.int lb) := by
        rw [List.map_append]
        exact atI_last _ _
      refine ⟨_, rfl, _, _, rfl, rfl, ?_⟩
      refine ⟨_, rfl, _, _, rfl, rfl, (by show (0 : Int) < 4; decide), rfl, _, rfl, ?_⟩
      refine st_wayN (fun σ H4 => H4 = H3 ∧ ∃ dp : Int, σ = [some (.ref p), some (.ref r), some (.int z), some (.int (z * 48271 % 2147483647)), some (.int mn), some (.int up), some (.int (0 + (j : Int))), some (.int dp)] ∧ ((z * 48271 % 2147483647 % 4 = 1 ∧ dp = up + 1 + (j : Int)) ∨ (z * 48271 % 2147483647 % 4 ≠ 1 ∧ dp = up + 1))) (fun n => ⟨rfl, _, rfl, .inr ⟨fun e => n (decide_eq_true (congrArg V.int e)), rfl⟩⟩) ?_ (fun e m => ?_)
      rotate_left
      · have e : V.int (z * 48271 % 2147483647 % 4) = V.int 1 := of_decide_eq_true e
        injection e with e
        exact ⟨_, rfl, _, _, rfl, rfl, _, rfl, _, _, rfl, rfl, m _ _ ⟨rfl, _, rfl, .inl ⟨e, by omega⟩⟩⟩
      rintro σ4 H4 ⟨rfl, dp, rfl, hdp⟩
      refine ⟨_, rfl, _, _, rfl, rfl, (by show (0 : Int) < 4; decide), rfl, _, rfl, ?_⟩
      refine st_wayN (fun σ H5 => H5 = H4 ∧ ∃ dp : Int, σ = [some (.ref p), some (.ref r), some (.int z), some (.int (z * 48271 % 2147483647)), some (.int mn), some (.int up), some (.int (0 + (j : Int))), some (.int dp)] ∧ ((z * 48271 % 2147483647 % 4 = 1 ∧ dp = up + 1 + (j : Int)) ∨ (z * 48271 % 2147483647 % 4 = 2 ∧ dp = up + 1 + (j : Int) % 2) ∨ (z * 48271 % 2147483647 % 4 ≠ 1 ∧ z * 48271 % 2147483647 % 4 ≠ 2 ∧ dp = up + 1))) (fun n => ⟨rfl, dp, rfl, ?_⟩) ?_ (fun e m => ?_)
      · have n2 : z * 48271 % 2147483647 % 4 ≠ 2 := fun e => n (decide_eq_true (congrArg V.int e))
        omega
      rotate_left
      · have e : V.int (z * 48271 % 2147483647 % 4) = V.int 2 := of_decide_eq_true e
        injection e with e
        exact ⟨_, rfl, _, _, rfl, rfl, _, rfl, _, _, rfl, rfl, (by show (0 : Int) < 2; decide), _, _, rfl, rfl, m _ _ ⟨rfl, _, rfl, .inr (.inl ⟨e, by rw [Int.zero_add]⟩)⟩⟩
      rintro σ5 H5 ⟨rfl, dp2, rfl, hdp2⟩
      refine ⟨_, rfl, _, _, rfl, rfl, (by show (0 : Int) < 4; decide), rfl, _, rfl, ?_⟩
      refine st_wayN (fun σ H6 => H6 = H5 ∧ ∃ dp : Int, σ = [some (.ref p), some (.ref r), some (.int z), some (.int (z * 48271 % 2147483647)), some (.int mn), some (.int up), some (.int (0 + (j : Int))), some (.int dp)] ∧ 1 ≤ dp ∧ dp ≤ lb + 1 ∧ (z * 48271 % 2147483647 % 4 ≠ 3 → up + 1 ≤ dp) ∧ (z * 48271 % 2147483647 % 4 = 1 → dp = up + 1 + (j : Int))) (fun n => ⟨rfl, dp2, rfl, ?_⟩) ?_ (fun e m => ?_)
      · have n3 : z * 48271 % 2147483647 % 4 ≠ 3 := fun e => n (decide_eq_true (congrArg V.int e))
        have := g0 n3
        have hj2 : j = 0 ∨ 1 ≤ j := by omega
        refine ⟨by omega, ?_, by omega, by omega⟩
        rcases hdp2 with ⟨e, rfl⟩ | ⟨e, rfl⟩ | ⟨_, _, rfl⟩
        · have := g1 e
          omega
        · rcases hj2 with rfl | h
          · omega
          · have := g2 e h
            omega
        · omega
      rotate_left
      · have e : V.int (z * 48271 % 2147483647 % 4) = V.int 3 := of_decide_eq_true e
        injection e with e
        have c0 := Int.emod_nonneg (z * 48271 % 2147483647 * (2 * (0 + (j : Int)) + 3) * 69621 % 2147483629) (show lb + 1 ≠ 0 by omega)
        have c1 := Int.emod_lt_of_pos (z * 48271 % 2147483647 * (2 * (0 + (j : Int)) + 3) * 69621 % 2147483629) (show (0 : Int) < lb + 1 by omega)
        refine ⟨_, rfl, _, rfl, _, _, rfl, rfl, .inl ⟨by decide, by decide⟩, _, _, rfl, rfl, _, _, rfl, rfl, .inr ⟨by omega, by omega⟩, _, _, rfl, rfl, .inr ⟨by decide, by decide⟩, _, _, rfl, rfl, (by show (0 : Int) < 2147483629; decide), _, rfl, _, rfl, r, _, _, _, rfl, rfl, SqL.of hr3, hlb, _, _, rfl, rfl, _, _, rfl, rfl, (by show (0 : Int) < lb + 1; omega), _, _, rfl, rfl, ?_⟩
        exact m _ _ ⟨rfl, 1 + z * 48271 % 2147483647 * (2 * (0 + (j : Int)) + 3) * 69621 % 2147483629 % (lb + 1), rfl, by omega, by omega, fun n => absurd e n, fun n => by omega⟩
      rintro σ6 H6 ⟨rfl, dp3, rfl, d1, d2, d3, d4⟩
      refine ⟨_, rfl, .inl ⟨rfl, _, SqL.of hr3⟩, _, rfl, r, _, _, rfl, rfl, hr3, ?_, ?_⟩
      · rw [List.length_map, List.length_append, List.length_singleton, sizeLine_eq]
        omega
      refine ⟨up, _, _, rfl, hu0, same_set sm3 hr' _, ?_, fs ++ [lb], dp3, ?_, hg3.snoc (by simp) d1 d2, by omega, ?_, fun n => ?_, fun n => ?_, fun n _ => ?_⟩
      · rw [upd_ne (Ne.symm ne)]
        exact hc3
      · rw [upd_same, List.map_append (l₂ := [dp3])]
        rfl
      · rw [List.length_append, List.length_singleton]
        omega
      · have := d3 n
        omega
      · have := d4 n
        omega
      · have := d3 (by omega)
        omega
    · rintro σ H3 ⟨up, k7, k8, rfl, hu0, sm3, hc3, fs, lb, hr3, hg3, hlb0, hfl, g0, g1, g2⟩
      exact ⟨⟨_, _, _, _, _, _, rfl⟩, sm3, hc3, fs, lb, hr3, hg3, hlb0, by omega⟩
  · rintro σ H' ⟨⟨k2, k4, k5, k6, k7, k8, rfl⟩, sm, hc1, es, la, hr1, hg, hla0, hn⟩
    refine ⟨_, rfl, q r _ (es ++ [la]) hr' sm hr1 hg ?_⟩
    rw [List.length_append, List.length_singleton]
    omega


/-- a number put in that makes depths no tree's -/
theorem bad_ins {ds : List Int} {i : Nat} {v : Int} (h1 : 1 ≤ i) (h2 : i ≤ ds.length) (hv : v < 1 ∨ ∃ x, ds[i - 1]? = some x ∧ x + 1 < v) : ¬ GoodD (ds.take i ++ v :: ds.drop i) := fun g => by
  have hlt : (ds.take i).length = i := by
    rw [List.length_take]
    omega
  have e1 : (ds.take i ++ v :: ds.drop i)[i]? = some v := by
    rw [List.getElem?_append_right (by omega), hlt, Nat.sub_self]
    rfl
  rcases hv with z | ⟨x, ex, z⟩
  · have := g.one (by omega) e1
    omega
  · have e0 : (ds.take i ++ v :: ds.drop i)[i - 1]? = some x := by
      rw [List.getElem?_append_left (by omega), List.getElem?_take_of_lt (by omega)]
      exact ex
    have := g.2 (i - 1) x v e0 (by rw [show i - 1 + 1 = i from by omega]; exact e1)
    omega
theorem pop_ins {ds : List V} {i : Nat} {v : V} (h : i ≤ ds.length) : (ds.take i ++ v :: ds.drop i).eraseIdx i = ds := by
  have hlt : (ds.take i).length = i := by
    rw [List.length_take]
    omega
  rw [List.eraseIdx_append_of_length_le (by omega), hlt, Nat.sub_self, List.eraseIdx_zero, List.tail_cons, List.take_append_drop]
def sp_law (K : PySem.W.Frag) : Sp := fun vs H Q _ => ∃ (s : Addr) (ns : List Int), vs = [.ref s] ∧ SqL K H s (ns.map V.int) ∧ ns.length ≤ 63 ∧ ∀ H', Q (.bl true) H'
theorem ok_law (T : Tx K mg a) : FnOk P w K mg base CX0 9 a.f_law a.fd_law ["_law_script"] (sp_law K) := by
  refine T.D_law.F.ok sc_law (fun vs H Q E h => ?_) (fun cdv A outer s H vs Q E hr h => ?_)
  · obtain ⟨b, f, rfl, _⟩ := h
    rfl
  obtain ⟨sa, zs, rfl, hS, hl, q⟩ := h
  refine ⟨_, (pss_cons (ps_set (i := 1) sc_law.nd rfl (Or.inl rfl) (pe_call ((ok_law_depths T).mono (by decide)) hr rfl T.D_law_depths.m T.D_law_depths.F.kp T.D_law_depths.b .nil pass0 (pa_cons (pv 0) pa_nil)))
    (pss_cons (ps_set (i := 2) sc_law.nd rfl (Or.inl rfl) (pe_callTy call_list_of rfl T.b_list Tw.bt_list (pa_cons (pv 1) pa_nil)))
    (pss_cons (ps_if (pt_cmpR op_eq (pe_op op_mod (pe_call ((ok_law_cell_at T).mono (by decide)) hr rfl T.D_law_cell_at.m T.D_law_cell_at.F.kp T.D_law_cell_at.b .nil pass0 (pa_cons (pv 0) (pa_cons pe_int pa_nil))) pe_int) pe_int (nomark _)) (pss_cons (ps_set (i := 3) sc_law.nd rfl (Or.inl rfl) (pe_op op_add pe_int (pe_op op_mod (pe_call ((ok_law_cell_at T).mono (by decide)) hr rfl T.D_law_cell_at.m T.D_law_cell_at.F.kp T.D_law_cell_at.b .nil pass0 (pa_cons (pv 0) (pa_cons pe_int pa_nil))) (pe_callB call_len_seq rfl T.b_len Tw.bt_len (pa_cons (pv 1) pa_nil)))))
    (pss_cons (ps_set (i := 4) sc_law.nd rfl (Or.inl rfl) (pe_ix ix_list (pe_lst (pa_cons pe_int (pa_cons (pe_op op_sub (pe_op op_sub pe_int pe_int) (pe_op op_mod (pe_call ((ok_law_cell_at T).mono (by decide)) hr rfl T.D_law_cell_at.m T.D_law_cell_at.F.kp T.D_law_cell_at.b .nil pass0 (pa_cons (pv 0) (pa_cons pe_int pa_nil))) (pe_op op_pow pe_int pe_int))) (pa_cons (pe_op op_add (pe_ix ix_list (pv 1) (pe_op op_sub (pv 3) pe_int) (fun _ _ => rfl)) pe_int) pa_nil)))) (pe_op op_mod (pe_call ((ok_law_cell_at T).mono (by decide)) hr rfl T.D_law_cell_at.m T.D_law_cell_at.F.kp T.D_law_cell_at.b .nil pass0 (pa_cons (pv 0) (pa_cons pe_int pa_nil))) pe_int) (fun _ _ => rfl)))
    (pss_cons (ps_expr (pe_bm PySem.F.plainAttrs_list PySem.F.slot_list_insert PySem.F.type_list_insert mt_insert (pv 2) (pa_cons (pv 3) (pa_cons (pv 4) pa_nil))))
    (pss_cons (ps_if (pt_not (pt_val (pe_call ((ok_law_no_tree T).mono (by decide)) hr rfl T.D_law_no_tree.m T.D_law_no_tree.F.kp T.D_law_no_tree.b .nil pass0 (pa_cons (pv 2) pa_nil)))) (pss_one (ps_ret pe_bl)) pss_nil)
    (pss_one (ps_expr (pe_bm PySem.F.plainAttrs_list PySem.F.slot_list_pop PySem.F.type_list_pop mt_popAt (pv 2) (pa_cons (pv 3) pa_nil)))))))) pss_nil)
    (pss_cons (ps_if (pt_cmpR op_eq (pe_op op_mod (pe_call ((ok_law_cell_at T).mono (by decide)) hr rfl T.D_law_cell_at.m T.D_law_cell_at.F.kp T.D_law_cell_at.b .nil pass0 (pa_cons (pv 0) (pa_cons pe_int pa_nil))) pe_int) pe_int (nomark _)) (pss_cons (ps_set (i := 4) sc_law.nd rfl (Or.inl rfl) (pe_op op_add pe_int (pe_op op_mod (pe_call ((ok_law_cell_at T).mono (by decide)) hr rfl T.D_law_cell_at.m T.D_law_cell_at.F.kp T.D_law_cell_at.b .nil pass0 (pa_cons (pv 0) (pa_cons pe_int pa_nil))) pe_int)))
    (pss_one (ps_if (pt_not (pt_val (pe_call ((ok_law_too_many T).mono (by decide)) hr rfl T.D_law_too_many.m T.D_law_too_many.F.kp T.D_law_too_many.b .nil pass0 (pa_cons (pe_op op_cat (pe_lst (pa_cons pe_int pa_nil)) (pe_op op_rep (pe_lst (pa_cons (pv 4) pa_nil)) pe_int)) pa_nil)))) (pss_one (ps_ret pe_bl)) pss_nil))) pss_nil)
    (pss_cons (ps_set (i := 5) sc_law.nd rfl (Or.inl rfl) (pe_call ((ok_kept_tree T).mono (by decide)) hr rfl T.D_kept_tree.m T.D_kept_tree.F.kp T.D_kept_tree.b .nil passN (pa_cons (pv 2) pa_nil)))
    (pss_cons (ps_if (PW.pt (pw_or (pt_not (pt_val (pe_call ((ok_law_good T).mono (by decide)) hr rfl T.D_law_good.m T.D_law_good.F.kp T.D_law_good.b .nil pass0 (pa_cons (pv 5) (pa_cons (pv 1) pa_nil))))) (pw_or1 (pt_cmpR (op_neD hr.units) (pv 2) (pv 1) (nomark _))))) (pss_one (ps_ret pe_bl)) pss_nil)
    (pss_cons (ps_asg pe_int (pg_sub (pe_ix ix_tup (pv 5) pe_int (fun _ _ => rfl)) pe_int set_list))
    (pss_cons (ps_expr (pe_bm PySem.F.plainAttrs_list PySem.F.slot_list_append PySem.F.type_list_append mt_append (pv 2) (pa_cons pe_int pa_nil)))
    (pss_one (ps_ret (pe_and (pe_call ((ok_law_good T).mono (by decide)) hr rfl T.D_law_good.m T.D_law_good.F.kp T.D_law_good.b .nil pass0 (pa_cons (pe_call ((ok_kept_tree T).mono (by decide)) hr rfl T.D_kept_tree.m T.D_kept_tree.F.kp T.D_kept_tree.b .nil passN (pa_cons (pv 1) pa_nil)) (pa_cons (pv 1) pa_nil))) (pe_one (pe_cmpR op_eq (pe_ix ix_list (pe_ix ix_tup (pv 5) pe_int (fun _ _ => rfl)) pe_int (fun _ _ => rfl)) pe_int (nomark _)))))))))))))), ?_⟩
  refine ⟨_, rfl, sa, zs, rfl, hS, hl, fun p H1 ds hp0 sm1 hp hg hn => ?_⟩
  have ern : (ds.map V.int).length = ds.length := List.length_map ..
  have h0 : 0 < ds.length := (List.getElem?_eq_some_iff.mp hg.1).1
  refine ⟨_, rfl, p, _, rfl, .inl (SqL.of hp), fun hd hhd => ?_⟩
  have s2 := same_new hhd (.lst (ds.map V.int))
  have xh : upd H1 hd (.lst (ds.map V.int)) hd = some (.lst (ds.map V.int)) := upd_same
  have npd : p ≠ hd := ne_of_none hp hhd
  generalize upd H1 hd (.lst (ds.map V.int)) = H2 at *
  refine ⟨_, rfl, sa, zs, 1, rfl, (sm1.trans s2).seq hS, _, _, rfl, rfl, (by show (0 : Int) < 5; decide), rfl, _, rfl, ?_⟩
  refine st_way (fun σ X => (∃ k3 k4, σ = [some (.ref sa), some (.ref p), some (.ref hd), k3, k4, none]) ∧ Same H1 X ∧ X hd = some (.lst (ds.map V.int))) ⟨⟨_, _, rfl⟩, s2, xh⟩ ?_ fun _ m => ?_
  rotate_left
  · have smA := sm1.trans s2
    have x2 := s2 _ _ hp
    refine ⟨_, rfl, sa, zs, 2, rfl, smA.seq hS, _, rfl, p, _, rfl, .inl (SqL.of x2), _, _, rfl, rfl, (by omega), _, _, rfl, rfl, ?_⟩
    have a0 := Int.emod_nonneg ((zs[2]?).getD (0 : Int)) (show ((ds.map V.int).length : Int) ≠ 0 by omega)
    have a1 := Int.emod_lt_of_pos ((zs[2]?).getD (0 : Int)) (show (0 : Int) < ((ds.map V.int).length : Int) by omega)
    obtain ⟨i, ei⟩ : ∃ i : Nat, 1 + (zs[2]?).getD (0 : Int) % ((ds.map V.int).length : Int) = i := ⟨(1 + (zs[2]?).getD (0 : Int) % ((ds.map V.int).length : Int)).toNat, by omega⟩
    have i1 : 1 ≤ i := by omega
    have i2 : i ≤ ds.length := by omega
    have hgi : ds[i - 1]? = some ds[i - 1] := List.getElem?_eq_getElem (by omega)
    have hat : atI (ds.map V.int) (1 + (zs[2]?).getD (0 : Int) % ((ds.map V.int).length : Int) - 1) = some (.int ds[i - 1]) := by
      rw [ei, show (i : Int) - 1 = ((i - 1 : Nat) : Int) from by omega]
      exact atI_int hgi
    obtain ⟨v, ev, hv⟩ : ∃ v : Int, atI [V.int 0, V.int (0 - 1 - (zs[3]?).getD (0 : Int) % 10 ^ (60 : Int).toNat), V.int (ds[i - 1] + 2)] ((zs[4]?).getD (0 : Int) % 3) = some (.int v) ∧ (v < 1 ∨ ∃ x, ds[i - 1]? = some x ∧ x + 1 < v) := by
      have h3 : (zs[4]?).getD (0 : Int) % 3 = 0 ∨ (zs[4]?).getD (0 : Int) % 3 = 1 ∨ (zs[4]?).getD (0 : Int) % 3 = 2 := by omega
      rcases h3 with h | h | h
      · rw [h]
        exact ⟨0, rfl, .inl (by decide)⟩
      · rw [h]
        have := Int.emod_nonneg ((zs[3]?).getD (0 : Int)) (show (10 : Int) ^ (60 : Int).toNat ≠ 0 by decide)
        exact ⟨_, rfl, .inl (by omega)⟩
      · rw [h]
        exact ⟨_, rfl, .inr ⟨_, hgi, by omega⟩⟩
    refine ⟨_, _, rfl, rfl, _, rfl, sa, zs, 3, rfl, smA.seq hS, _, _, rfl, rfl, ⟨by decide, by decide, by decide⟩, _, _, rfl, rfl, (by show (0 : Int) < 10 ^ 60; decide), _, _, rfl, rfl, _, rfl, _, rfl, _, _, rfl, rfl, p, _, _, _, rfl, rfl, SqL.of x2, hat, _, _, rfl, rfl, (by show 3 ≤ sizeLine; decide), fun l3 hl3 => ?_⟩
    have s3 := s2.trans (same_new hl3 (.lst [V.int 0, V.int (0 - 1 - (zs[3]?).getD (0 : Int) % 10 ^ (60 : Int).toNat), V.int (ds[i - 1] + 2)]))
    have xh3 := (same_new hl3 (.lst [V.int 0, V.int (0 - 1 - (zs[3]?).getD (0 : Int) % 10 ^ (60 : Int).toNat), V.int (ds[i - 1] + 2)])) _ _ xh
    refine ⟨_, rfl, sa, zs, 4, rfl, (sm1.trans s3).seq hS, _, _, rfl, rfl, (by show (0 : Int) < 3; decide), l3, _, _, _, rfl, rfl, SqL.of upd_same, ev, ?_⟩
    generalize upd H2 l3 (.lst [V.int 0, V.int (0 - 1 - (zs[3]?).getD (0 : Int) % 10 ^ (60 : Int).toNat), V.int (ds[i - 1] + 2)]) = H3 at *
    refine ⟨_, rfl, .inl ⟨rfl, _, SqL.of xh3⟩, _, rfl, _, rfl, hd, _, _, _, rfl, rfl, xh3, by omega, by omega, (by rw [ern, sizeLine_eq]; omega), ?_⟩
    have xh4 : upd H3 hd (.lst ((ds.map V.int).take (1 + (zs[2]?).getD (0 : Int) % ((ds.map V.int).length : Int)).toNat ++ V.int v :: (ds.map V.int).drop (1 + (zs[2]?).getD (0 : Int) % ((ds.map V.int).length : Int)).toNat)) hd = some (.lst ((ds.take i ++ v :: ds.drop i).map V.int)) := by
      rw [upd_same, ei, Int.toNat_natCast, List.map_append, List.map_cons, List.map_take, List.map_drop]
    have s4 := same_set s3 hhd (.lst ((ds.map V.int).take (1 + (zs[2]?).getD (0 : Int) % ((ds.map V.int).length : Int)).toNat ++ V.int v :: (ds.map V.int).drop (1 + (zs[2]?).getD (0 : Int) % ((ds.map V.int).length : Int)).toNat))
    generalize upd H3 hd (.lst ((ds.map V.int).take (1 + (zs[2]?).getD (0 : Int) % ((ds.map V.int).length : Int)).toNat ++ V.int v :: (ds.map V.int).drop (1 + (zs[2]?).getD (0 : Int) % ((ds.map V.int).length : Int)).toNat)) = H4 at *
    have hil : (ds.take i ++ v :: ds.drop i).length = ds.length + 1 := by
      rw [List.length_append, List.length_cons, List.length_take, List.length_drop]
      omega
    refine ⟨_, rfl, hd, _, rfl, xh4, by omega, bad_ins i1 i2 hv, fun H5 s5 => ⟨true, rfl, iteF ?_⟩⟩
    have xh5 := s5 _ _ xh4
    have emap : (ds.take i ++ v :: ds.drop i).map V.int = (ds.map V.int).take i ++ V.int v :: (ds.map V.int).drop i := by
      rw [List.map_append, List.map_cons, List.map_take, List.map_drop]
    rw [emap] at xh5
    have hil2 : ((ds.map V.int).take i ++ V.int v :: (ds.map V.int).drop i).length = ds.length + 1 := by
      rw [← emap, List.length_map, hil]
    refine ⟨_, rfl, .inl ⟨rfl, _, SqL.of xh5⟩, _, rfl, hd, _, _, i, V.int v, rfl, rfl, xh5, by omega, by omega, ?_, ?_, ?_⟩
    · rw [ei, hil2]
      unfold seqIndex?
      simp
      omega
    · rw [List.getElem?_append_right (by rw [List.length_take, ern]; omega), List.length_take, ern, Nat.min_eq_left i2, Nat.sub_self]
      rfl
    refine m _ _ ⟨⟨_, _, rfl⟩, same_set (s4.trans s5) hhd _, ?_⟩
    rw [upd_same, pop_ins (by rw [ern]; exact i2)]
  rintro σ3 X ⟨⟨k3, k4, rfl⟩, smX, xhX⟩
  refine ⟨_, rfl, sa, zs, 1, rfl, (sm1.trans smX).seq hS, _, _, rfl, rfl, (by show (0 : Int) < 9; decide), rfl, _, rfl, ?_⟩
  refine st_way (fun σ X => (∃ k3 k4, σ = [some (.ref sa), some (.ref p), some (.ref hd), k3, k4, none]) ∧ Same H1 X ∧ X hd = some (.lst (ds.map V.int))) ⟨⟨_, _, rfl⟩, smX, xhX⟩ ?_ fun _ m => ?_
  rotate_left
  · refine ⟨_, rfl, sa, zs, 2, rfl, (sm1.trans smX).seq hS, _, _, rfl, rfl, (by show (0 : Int) < 3; decide), _, _, rfl, rfl, ?_⟩
    refine ⟨(by show 1 ≤ sizeLine; decide), fun l1 h1 => ⟨_, rfl, (by show 1 ≤ sizeLine; decide), fun l2 h2 => ⟨l2, 2048, _, rfl, rfl, upd_same, by decide, by decide, (by show 1 * 2048 ≤ sizeLine; decide), fun l3 h3 => ?_⟩⟩⟩
    have t1 := same_new h1 (.lst [.int 0])
    have t2 := same_new h2 (.lst [.int (1 + (zs[2]?).getD (0 : Int) % 3)])
    have t3 := same_new h3 (.lst (List.replicate (2048 : Int).toNat [V.int (1 + (zs[2]?).getD (0 : Int) % 3)]).flatten)
    have e3 : (List.replicate (2048 : Int).toNat [V.int (1 + (zs[2]?).getD (0 : Int) % 3)]).flatten = (List.replicate 2048 (1 + (zs[2]?).getD (0 : Int) % 3)).map V.int := rep_one 2048 _
    refine ⟨l1, l3, _, _, rfl, rfl, t3 _ _ (t2 _ _ upd_same), upd_same, ?_, fun l4 h4 => ?_⟩
    · rw [e3, List.length_map, List.length_replicate]
      decide
    have t4 := same_new h4 (.lst ([V.int 0] ++ (List.replicate (2048 : Int).toNat [V.int (1 + (zs[2]?).getD (0 : Int) % 3)]).flatten))
    have tA := t1.trans (t2.trans (t3.trans t4))
    refine ⟨l4, 0 :: List.replicate 2048 (1 + (zs[2]?).getD (0 : Int) % 3), rfl, ?_, by rw [List.length_cons, List.length_replicate]; decide, fun H5 s5 => ⟨true, rfl, iteF (m _ _ ⟨⟨_, _, rfl⟩, smX.trans (tA.trans s5), s5 _ _ (tA _ _ xhX)⟩)⟩⟩
    rw [upd_same, e3]
    rfl
  rintro σ4 Y ⟨⟨k3, k4, rfl⟩, smY, xhY⟩
  refine ⟨_, rfl, hd, ds, rfl, xhY, .inl ⟨by omega, hg, fun r t ah nd bl lows S xs H4 hbl sm4 xr kb => ?_⟩⟩
  have xpY := smY _ _ hp
  have xp4 := sm4 _ _ xpY
  have xh4 := sm4 _ _ xhY
  refine ⟨_, rfl, _, rfl, r, t, ah, nd, bl, p, ds, lows, S, xs, rfl, xr, kb, xp4, hg, by omega, fun H5 s5 => ⟨true, rfl, iteF ?_⟩⟩
  refine ⟨_, rfl, _, rfl, .inl ⟨hd, p, ds, ds, rfl, rfl, SqL.of (s5 _ _ xh4), SqL.of (s5 _ _ xp4), _, rfl, iteNS rfl ?_⟩⟩
  have xb5 := s5 _ _ kb.bls
  have hpl : ((packs (brk ds 0)).map V.int).length = many (brk ds 0).length := by
    rw [List.length_map, packs_length]
  have hm0 : 0 < many (brk ds 0).length := by
    have := brk_len hg
    unfold many
    omega
  refine ⟨_, rfl, r, _, _, _, rfl, rfl, SqT.of (s5 _ _ xr), rfl, bl, _, 0, 0, rfl, rfl, xb5, ?_, ?_⟩
  · rw [hpl]
    exact ixN_nat (j := 0) hm0
  have nbp : p ≠ bl := fun z => by rw [← z, xpY] at hbl; cases hbl
  have nbh : hd ≠ bl := fun z => by rw [← z, xhY] at hbl; cases hbl
  have nbr : r ≠ bl := fun z => by have := kb.bls; rw [← z, xr] at this; cases this
  have nhr : r ≠ hd := fun z => by rw [z, xh4] at xr; cases xr
  have xp6 : upd H5 bl (.lst (((packs (brk ds 0)).map V.int).set 0 (V.int 0))) p = some (.lst (ds.map V.int)) := by
    rw [upd_ne nbp]
    exact s5 _ _ xp4
  have xh6 : upd H5 bl (.lst (((packs (brk ds 0)).map V.int).set 0 (V.int 0))) hd = some (.lst (ds.map V.int)) := by
    rw [upd_ne nbh]
    exact s5 _ _ xh4
  have xr6 : upd H5 bl (.lst (((packs (brk ds 0)).map V.int).set 0 (V.int 0))) r = some (.tup [.ref t, .ref bl]) := by
    rw [upd_ne nbr]
    exact s5 _ _ xr
  have xb6 : upd H5 bl (.lst (((packs (brk ds 0)).map V.int).set 0 (V.int 0))) bl = some (.lst (((packs (brk ds 0)).map V.int).set 0 (V.int 0))) := upd_same
  generalize upd H5 bl (.lst (((packs (brk ds 0)).map V.int).set 0 (V.int 0))) = H6 at *
  refine ⟨_, rfl, .inl ⟨rfl, _, SqL.of xh6⟩, hd, _, _, rfl, rfl, xh6, (by rw [ern, sizeLine_eq]; omega), ?_⟩
  have xp7 : upd H6 hd (.lst (ds.map V.int ++ [V.int 1])) p = some (.lst (ds.map V.int)) := by
    rw [upd_ne npd]
    exact xp6
  have xr7 : upd H6 hd (.lst (ds.map V.int ++ [V.int 1])) r = some (.tup [.ref t, .ref bl]) := by
    rw [upd_ne nhr]
    exact xr6
  have xb7 : upd H6 hd (.lst (ds.map V.int ++ [V.int 1])) bl = some (.lst (((packs (brk ds 0)).map V.int).set 0 (V.int 0))) := by
    rw [upd_ne nbh.symm]
    exact xb6
  generalize upd H6 hd (.lst (ds.map V.int ++ [V.int 1])) = H7 at *
  refine ⟨_, rfl, p, ds, rfl, xp7, .inl ⟨by omega, hg, fun r2 t2 ah2 nd2 bl2 lows2 S2 xs2 H8 _ sm8 xr2 kb2 => ?_⟩⟩
  refine ⟨_, rfl, r2, t2, ah2, nd2, bl2, p, ds, lows2, S2, xs2, rfl, xr2, kb2, sm8 _ _ xp7, hg, by omega, fun H9 s9 => ⟨true, rfl, iteT ?_⟩⟩
  have s89 := sm8.trans s9
  have hat0 : atI (((packs (brk ds 0)).map V.int).set 0 (V.int 0)) 0 = some (V.int 0) := atI_V (j := 0) (List.getElem?_set_self (by rw [hpl]; omega))
  refine ⟨_, rfl, r, _, _, _, rfl, rfl, SqT.of (s89 _ _ xr7), rfl, bl, _, _, _, rfl, rfl, SqL.of (s89 _ _ xb7), hat0, rfl, ?_⟩
  rw [decide_eq_true rfl]
  exact q _
end
theorem all_mk {l : PySem.W.OpenLaw} {w : World} {K : PySem.W.Frag} {h : Heap} {mg : Str → Option Value} {fa f0 f1 f2 f3 f4 f5 f6 f7 f8 f9 f10 f11 f12 f13 f14 f15 f16 f17 f18 f19 f20 f21 f22 f23 f24 f25 f26 f27 f28 f29 f30 : Addr} {od0 an0 od1 an1 od2 an2 od3 an3 od4 an4 od5 an5 od6 an6 od7 an7 od8 an8 od9 an9 od10 an10 od11 an11 od12 an12 od13 an13 od14 an14 od15 an15 od16 an16 od17 an17 od18 an18 od19 an19 od20 an20 od21 an21 od22 an22 od23 an23 od24 an24 od25 an25 od26 an26 od27 an27 od28 an28 od29 an29 od30 an30 : Option Addr} {sl0 sl1 sl2 sl3 sl4 sl5 sl6 sl7 sl8 sl9 sl10 sl11 sl12 sl13 sl14 sl15 sl16 sl17 sl18 sl19 sl20 sl21 sl22 sl23 sl24 sl25 sl26 sl27 sl28 sl29 sl30 : Array (Option Value)} {oc0 kV0 dc0 pm0 cd0 ct0 oc1 kV1 dc1 pm1 cd1 ct1 oc2 kV2 dc2 pm2 cd2 ct2 oc3 kV3 dc3 pm3 cd3 ct3 oc4 kV4 dc4 pm4 cd4 ct4 oc5 kV5 dc5 pm5 cd5 ct5 oc6 kV6 dc6 pm6 cd6 ct6 oc7 kV7 dc7 pm7 cd7 ct7 oc8 kV8 dc8 pm8 cd8 ct8 oc9 kV9 dc9 pm9 cd9 ct9 oc10 kV10 dc10 pm10 cd10 ct10 oc11 kV11 dc11 pm11 cd11 ct11 oc12 kV12 dc12 pm12 cd12 ct12 oc13 kV13 dc13 pm13 cd13 ct13 oc14 kV14 dc14 pm14 cd14 ct14 oc15 kV15 dc15 pm15 cd15 ct15 oc16 kV16 dc16 pm16 cd16 ct16 oc17 kV17 dc17 pm17 cd17 ct17 oc18 kV18 dc18 pm18 cd18 ct18 oc19 kV19 dc19 pm19 cd19 ct19 oc20 kV20 dc20 pm20 cd20 ct20 oc21 kV21 dc21 pm21 cd21 ct21 oc22 kV22 dc22 pm22 cd22 ct22 oc23 kV23 dc23 pm23 cd23 ct23 oc24 kV24 dc24 pm24 cd24 ct24 oc25 kV25 dc25 pm25 cd25 ct25 oc26 kV26 dc26 pm26 cd26 ct26 oc27 kV27 dc27 pm27 cd27 ct27 oc28 kV28 dc28 pm28 cd28 ct28 oc29 kV29 dc29 pm29 cd29 ct29 oc30 kV30 dc30 pm30 cd30 ct30 : Value} {tt_BLOCK_BITS tt_MOST_BITS tt_MOST_NODES tt_MOST_NUMBERS : Tok} {c_NoTree c_TooMany c_WoodError : Addr} (X : K.In h) (G : h.Ns mainGlobals mg) (hfa : mg "law" = some (.ref fa))
    (a0 : PySem.W.nsIn K mainGlobals "packed" = some (some (.ref f0))) (l0 : K.lookup f0 = some ⟨oc0, od0, .func (PySem.W.fnOf "packed" "packed" (defArgs s_packed) (defBody s_packed) (defScope s_packed) .none kV0 dc0 pm0 an0 cd0 ct0), sl0⟩) (c0 : PySem.W.codeIn K cd0 "packed" = true) (k0 : PySem.W.keepIn K (.ref f0) = true)
    (a1 : PySem.W.nsIn K mainGlobals "check_row" = some (some (.ref f1))) (l1 : K.lookup f1 = some ⟨oc1, od1, .func (PySem.W.fnOf "check_row" "check_row" (defArgs s_check_row) (defBody s_check_row) (defScope s_check_row) .none kV1 dc1 pm1 an1 cd1 ct1), sl1⟩) (c1 : PySem.W.codeIn K cd1 "check_row" = true) (k1 : PySem.W.keepIn K (.ref f1) = true)
    (a2 : PySem.W.nsIn K mainGlobals "block_of" = some (some (.ref f2))) (l2 : K.lookup f2 = some ⟨oc2, od2, .func (PySem.W.fnOf "block_of" "block_of" (defArgs s_block_of) (defBody s_block_of) (defScope s_block_of) .none kV2 dc2 pm2 an2 cd2 ct2), sl2⟩) (c2 : PySem.W.codeIn K cd2 "block_of" = true) (k2 : PySem.W.keepIn K (.ref f2) = true)
    (a3 : PySem.W.nsIn K mainGlobals "bit_in" = some (some (.ref f3))) (l3 : K.lookup f3 = some ⟨oc3, od3, .func (PySem.W.fnOf "bit_in" "bit_in" (defArgs s_bit_in) (defBody s_bit_in) (defScope s_bit_in) .none kV3 dc3 pm3 an3 cd3 ct3), sl3⟩) (c3 : PySem.W.codeIn K cd3 "bit_in" = true) (k3 : PySem.W.keepIn K (.ref f3) = true)
    (a4 : PySem.W.nsIn K mainGlobals "bits_of" = some (some (.ref f4))) (l4 : K.lookup f4 = some ⟨oc4, od4, .func (PySem.W.fnOf "bits_of" "bits_of" (defArgs s_bits_of) (defBody s_bits_of) (defScope s_bits_of) .none kV4 dc4 pm4 an4 cd4 ct4), sl4⟩) (c4 : PySem.W.codeIn K cd4 "bits_of" = true) (k4 : PySem.W.keepIn K (.ref f4) = true)
    (a5 : PySem.W.nsIn K mainGlobals "ones_in" = some (some (.ref f5))) (l5 : K.lookup f5 = some ⟨oc5, od5, .func (PySem.W.fnOf "ones_in" "ones_in" (defArgs s_ones_in) (defBody s_ones_in) (defScope s_ones_in) .none kV5 dc5 pm5 an5 cd5 ct5), sl5⟩) (c5 : PySem.W.codeIn K cd5 "ones_in" = true) (k5 : PySem.W.keepIn K (.ref f5) = true)
    (a6 : PySem.W.nsIn K mainGlobals "nets_of" = some (some (.ref f6))) (l6 : K.lookup f6 = some ⟨oc6, od6, .func (PySem.W.fnOf "nets_of" "nets_of" (defArgs s_nets_of) (defBody s_nets_of) (defScope s_nets_of) .none kV6 dc6 pm6 an6 cd6 ct6), sl6⟩) (c6 : PySem.W.codeIn K cd6 "nets_of" = true) (k6 : PySem.W.keepIn K (.ref f6) = true)
    (a7 : PySem.W.nsIn K mainGlobals "low_in" = some (some (.ref f7))) (l7 : K.lookup f7 = some ⟨oc7, od7, .func (PySem.W.fnOf "low_in" "low_in" (defArgs s_low_in) (defBody s_low_in) (defScope s_low_in) .none kV7 dc7 pm7 an7 cd7 ct7), sl7⟩) (c7 : PySem.W.codeIn K cd7 "low_in" = true) (k7 : PySem.W.keepIn K (.ref f7) = true)
    (a8 : PySem.W.nsIn K mainGlobals "heap_of" = some (some (.ref f8))) (l8 : K.lookup f8 = some ⟨oc8, od8, .func (PySem.W.fnOf "heap_of" "heap_of" (defArgs s_heap_of) (defBody s_heap_of) (defScope s_heap_of) .none kV8 dc8 pm8 an8 cd8 ct8), sl8⟩) (c8 : PySem.W.codeIn K cd8 "heap_of" = true) (k8 : PySem.W.keepIn K (.ref f8) = true)
    (a9 : PySem.W.nsIn K mainGlobals "size_of" = some (some (.ref f9))) (l9 : K.lookup f9 = some ⟨oc9, od9, .func (PySem.W.fnOf "size_of" "size_of" (defArgs s_size_of) (defBody s_size_of) (defScope s_size_of) .none kV9 dc9 pm9 an9 cd9 ct9), sl9⟩) (c9 : PySem.W.codeIn K cd9 "size_of" = true) (k9 : PySem.W.keepIn K (.ref f9) = true)
    (a10 : PySem.W.nsIn K mainGlobals "lesser_of" = some (some (.ref f10))) (l10 : K.lookup f10 = some ⟨oc10, od10, .func (PySem.W.fnOf "lesser_of" "lesser_of" (defArgs s_lesser_of) (defBody s_lesser_of) (defScope s_lesser_of) .none kV10 dc10 pm10 an10 cd10 ct10), sl10⟩) (c10 : PySem.W.codeIn K cd10 "lesser_of" = true) (k10 : PySem.W.keepIn K (.ref f10) = true)
    (a11 : PySem.W.nsIn K mainGlobals "kept_row" = some (some (.ref f11))) (l11 : K.lookup f11 = some ⟨oc11, od11, .func (PySem.W.fnOf "kept_row" "kept_row" (defArgs s_kept_row) (defBody s_kept_row) (defScope s_kept_row) .none kV11 dc11 pm11 an11 cd11 ct11), sl11⟩) (c11 : PySem.W.codeIn K cd11 "kept_row" = true) (k11 : PySem.W.keepIn K (.ref f11) = true)
    (a12 : PySem.W.nsIn K mainGlobals "ahead_of" = some (some (.ref f12))) (l12 : K.lookup f12 = some ⟨oc12, od12, .func (PySem.W.fnOf "ahead_of" "ahead_of" (defArgs s_ahead_of) (defBody s_ahead_of) (defScope s_ahead_of) .none kV12 dc12 pm12 an12 cd12 ct12), sl12⟩) (c12 : PySem.W.codeIn K cd12 "ahead_of" = true) (k12 : PySem.W.keepIn K (.ref f12) = true)
    (a13 : PySem.W.nsIn K mainGlobals "is_tree" = some (some (.ref f13))) (l13 : K.lookup f13 = some ⟨oc13, od13, .func (PySem.W.fnOf "is_tree" "is_tree" (defArgs s_is_tree) (defBody s_is_tree) (defScope s_is_tree) .none kV13 dc13 pm13 an13 cd13 ct13), sl13⟩) (c13 : PySem.W.codeIn K cd13 "is_tree" = true) (k13 : PySem.W.keepIn K (.ref f13) = true)
    (a14 : PySem.W.nsIn K mainGlobals "check_brackets" = some (some (.ref f14))) (l14 : K.lookup f14 = some ⟨oc14, od14, .func (PySem.W.fnOf "check_brackets" "check_brackets" (defArgs s_check_brackets) (defBody s_check_brackets) (defScope s_check_brackets) .none kV14 dc14 pm14 an14 cd14 ct14), sl14⟩) (c14 : PySem.W.codeIn K cd14 "check_brackets" = true) (k14 : PySem.W.keepIn K (.ref f14) = true)
    (a15 : PySem.W.nsIn K mainGlobals "kept_brackets" = some (some (.ref f15))) (l15 : K.lookup f15 = some ⟨oc15, od15, .func (PySem.W.fnOf "kept_brackets" "kept_brackets" (defArgs s_kept_brackets) (defBody s_kept_brackets) (defScope s_kept_brackets) .none kV15 dc15 pm15 an15 cd15 ct15), sl15⟩) (c15 : PySem.W.codeIn K cd15 "kept_brackets" = true) (k15 : PySem.W.keepIn K (.ref f15) = true)
    (a16 : PySem.W.nsIn K mainGlobals "low_of" = some (some (.ref f16))) (l16 : K.lookup f16 = some ⟨oc16, od16, .func (PySem.W.fnOf "low_of" "low_of" (defArgs s_low_of) (defBody s_low_of) (defScope s_low_of) .none kV16 dc16 pm16 an16 cd16 ct16), sl16⟩) (c16 : PySem.W.codeIn K cd16 "low_of" = true) (k16 : PySem.W.keepIn K (.ref f16) = true)
    (a17 : PySem.W.nsIn K mainGlobals "base_of" = some (some (.ref f17))) (l17 : K.lookup f17 = some ⟨oc17, od17, .func (PySem.W.fnOf "base_of" "base_of" (defArgs s_base_of) (defBody s_base_of) (defScope s_base_of) .none kV17 dc17 pm17 an17 cd17 ct17), sl17⟩) (c17 : PySem.W.codeIn K cd17 "base_of" = true) (k17 : PySem.W.keepIn K (.ref f17) = true)
    (a18 : PySem.W.nsIn K mainGlobals "end_within" = some (some (.ref f18))) (l18 : K.lookup f18 = some ⟨oc18, od18, .func (PySem.W.fnOf "end_within" "end_within" (defArgs s_end_within) (defBody s_end_within) (defScope s_end_within) .none kV18 dc18 pm18 an18 cd18 ct18), sl18⟩) (c18 : PySem.W.codeIn K cd18 "end_within" = true) (k18 : PySem.W.keepIn K (.ref f18) = true)
    (a19 : PySem.W.nsIn K mainGlobals "check_depths" = some (some (.ref f19))) (l19 : K.lookup f19 = some ⟨oc19, od19, .func (PySem.W.fnOf "check_depths" "check_depths" (defArgs s_check_depths) (defBody s_check_depths) (defScope s_check_depths) .none kV19 dc19 pm19 an19 cd19 ct19), sl19⟩) (c19 : PySem.W.codeIn K cd19 "check_depths" = true) (k19 : PySem.W.keepIn K (.ref f19) = true)
    (a20 : PySem.W.nsIn K mainGlobals "brackets_of" = some (some (.ref f20))) (l20 : K.lookup f20 = some ⟨oc20, od20, .func (PySem.W.fnOf "brackets_of" "brackets_of" (defArgs s_brackets_of) (defBody s_brackets_of) (defScope s_brackets_of) .none kV20 dc20 pm20 an20 cd20 ct20), sl20⟩) (c20 : PySem.W.codeIn K cd20 "brackets_of" = true) (k20 : PySem.W.keepIn K (.ref f20) = true)
    (a21 : PySem.W.nsIn K mainGlobals "kept_tree" = some (some (.ref f21))) (l21 : K.lookup f21 = some ⟨oc21, od21, .func (PySem.W.fnOf "kept_tree" "kept_tree" (defArgs s_kept_tree) (defBody s_kept_tree) (defScope s_kept_tree) .none kV21 dc21 pm21 an21 cd21 ct21), sl21⟩) (c21 : PySem.W.codeIn K cd21 "kept_tree" = true) (k21 : PySem.W.keepIn K (.ref f21) = true)
    (a22 : PySem.W.nsIn K mainGlobals "_law_cell_at" = some (some (.ref f22))) (l22 : K.lookup f22 = some ⟨oc22, od22, .func (PySem.W.fnOf "_law_cell_at" "_law_cell_at" (defArgs s_law_cell_at) (defBody s_law_cell_at) (defScope s_law_cell_at) .none kV22 dc22 pm22 an22 cd22 ct22), sl22⟩) (c22 : PySem.W.codeIn K cd22 "_law_cell_at" = true) (k22 : PySem.W.keepIn K (.ref f22) = true)
    (a23 : PySem.W.nsIn K mainGlobals "_law_whole" = some (some (.ref f23))) (l23 : K.lookup f23 = some ⟨oc23, od23, .func (PySem.W.fnOf "_law_whole" "_law_whole" (defArgs s_law_whole) (defBody s_law_whole) (defScope s_law_whole) .none kV23 dc23 pm23 an23 cd23 ct23), sl23⟩) (c23 : PySem.W.codeIn K cd23 "_law_whole" = true) (k23 : PySem.W.keepIn K (.ref f23) = true)
    (a24 : PySem.W.nsIn K mainGlobals "_law_depths" = some (some (.ref f24))) (l24 : K.lookup f24 = some ⟨oc24, od24, .func (PySem.W.fnOf "_law_depths" "_law_depths" (defArgs s_law_depths) (defBody s_law_depths) (defScope s_law_depths) .none kV24 dc24 pm24 an24 cd24 ct24), sl24⟩) (c24 : PySem.W.codeIn K cd24 "_law_depths" = true) (k24 : PySem.W.keepIn K (.ref f24) = true)
    (a25 : PySem.W.nsIn K mainGlobals "_law_walked" = some (some (.ref f25))) (l25 : K.lookup f25 = some ⟨oc25, od25, .func (PySem.W.fnOf "_law_walked" "_law_walked" (defArgs s_law_walked) (defBody s_law_walked) (defScope s_law_walked) .none kV25 dc25 pm25 an25 cd25 ct25), sl25⟩) (c25 : PySem.W.codeIn K cd25 "_law_walked" = true) (k25 : PySem.W.keepIn K (.ref f25) = true)
    (a26 : PySem.W.nsIn K mainGlobals "_law_heap" = some (some (.ref f26))) (l26 : K.lookup f26 = some ⟨oc26, od26, .func (PySem.W.fnOf "_law_heap" "_law_heap" (defArgs s_law_heap) (defBody s_law_heap) (defScope s_law_heap) .none kV26 dc26 pm26 an26 cd26 ct26), sl26⟩) (c26 : PySem.W.codeIn K cd26 "_law_heap" = true) (k26 : PySem.W.keepIn K (.ref f26) = true)
    (a27 : PySem.W.nsIn K mainGlobals "_law_good" = some (some (.ref f27))) (l27 : K.lookup f27 = some ⟨oc27, od27, .func (PySem.W.fnOf "_law_good" "_law_good" (defArgs s_law_good) (defBody s_law_good) (defScope s_law_good) .none kV27 dc27 pm27 an27 cd27 ct27), sl27⟩) (c27 : PySem.W.codeIn K cd27 "_law_good" = true) (k27 : PySem.W.keepIn K (.ref f27) = true)
    (a28 : PySem.W.nsIn K mainGlobals "_law_no_tree" = some (some (.ref f28))) (l28 : K.lookup f28 = some ⟨oc28, od28, .func (PySem.W.fnOf "_law_no_tree" "_law_no_tree" (defArgs s_law_no_tree) (defBody s_law_no_tree) (defScope s_law_no_tree) .none kV28 dc28 pm28 an28 cd28 ct28), sl28⟩) (c28 : PySem.W.codeIn K cd28 "_law_no_tree" = true) (k28 : PySem.W.keepIn K (.ref f28) = true)
    (a29 : PySem.W.nsIn K mainGlobals "_law_too_many" = some (some (.ref f29))) (l29 : K.lookup f29 = some ⟨oc29, od29, .func (PySem.W.fnOf "_law_too_many" "_law_too_many" (defArgs s_law_too_many) (defBody s_law_too_many) (defScope s_law_too_many) .none kV29 dc29 pm29 an29 cd29 ct29), sl29⟩) (c29 : PySem.W.codeIn K cd29 "_law_too_many" = true) (k29 : PySem.W.keepIn K (.ref f29) = true)
    (a30 : PySem.W.nsIn K mainGlobals "law" = some (some (.ref f30))) (l30 : K.lookup f30 = some ⟨oc30, od30, .func (PySem.W.fnOf "law" "law" (defArgs s_law) (defBody s_law) (defScope s_law) .none kV30 dc30 pm30 an30 cd30 ct30), sl30⟩) (c30 : PySem.W.codeIn K cd30 "law" = true) (k30 : PySem.W.keepIn K (.ref f30) = true)
    (z_ValueError : PySem.W.nsIn K mainGlobals "ValueError" = some none)
    (z_bool : PySem.W.nsIn K mainGlobals "bool" = some none)
    (z_enumerate : PySem.W.nsIn K mainGlobals "enumerate" = some none)
    (z_int : PySem.W.nsIn K mainGlobals "int" = some none)
    (z_isinstance : PySem.W.nsIn K mainGlobals "isinstance" = some none)
    (z_len : PySem.W.nsIn K mainGlobals "len" = some none)
    (z_list : PySem.W.nsIn K mainGlobals "list" = some none)
    (z_min : PySem.W.nsIn K mainGlobals "min" = some none)
    (z_range : PySem.W.nsIn K mainGlobals "range" = some none)
    (z_reversed : PySem.W.nsIn K mainGlobals "reversed" = some none)
    (z_sum : PySem.W.nsIn K mainGlobals "sum" = some none)
    (z_tuple : PySem.W.nsIn K mainGlobals "tuple" = some none)
    (z_zip : PySem.W.nsIn K mainGlobals "zip" = some none)
    (g_BLOCK_BITS : PySem.W.nsIn K mainGlobals "BLOCK_BITS" = some (some (.int 32 tt_BLOCK_BITS)))
    (g_MOST_BITS : PySem.W.nsIn K mainGlobals "MOST_BITS" = some (some (.int 4096 tt_MOST_BITS)))
    (g_MOST_NODES : PySem.W.nsIn K mainGlobals "MOST_NODES" = some (some (.int 2048 tt_MOST_NODES)))
    (g_MOST_NUMBERS : PySem.W.nsIn K mainGlobals "MOST_NUMBERS" = some (some (.int 4096 tt_MOST_NUMBERS)))
    (q_NoTree : PySem.W.nsIn K mainGlobals "NoTree" = some (some (.ref c_NoTree)))
    (q_TooMany : PySem.W.nsIn K mainGlobals "TooMany" = some (some (.ref c_TooMany)))
    (q_WoodError : PySem.W.nsIn K mainGlobals "WoodError" = some (some (.ref c_WoodError)))
    (ex_NoTree : PySem.W.excIn K c_NoTree bmV "ValueError.__new__" = true)
    (ed_NoTree : PySem.W.hasDictIn K c_NoTree = true)
    (ega_NoTree : PySem.W.findIn K (.ref c_NoTree) "__getattribute__" = some (some (.builtin "BaseException.__getattribute__")))
    (eng_NoTree : PySem.W.findIn K (.ref c_NoTree) "__getattr__" = some none)
    (ecl_NoTree : PySem.W.findIn K (.ref c_NoTree) "__class__" = some (some (.builtin "object.__class__")))
    (egt_NoTree : PySem.W.specialIn K (.builtin "object.__class__") "__get__" = some (some (.builtin "getset_descriptor.__get__")))
    (etk_NoTree : PySem.W.takesIn K (.builtin "object.__class__") = some true)
    (emo_NoTree : PySem.W.mroIn K c_NoTree (.type "object") = some true)
    (emb_NoTree : PySem.W.mroIn K c_NoTree (.type "BaseException") = some true)
    (i_NoTree_NoTree : PySem.W.kitOne K (.ref c_NoTree) (.ref c_NoTree) = some true)
    (i_NoTree_TooMany : PySem.W.kitOne K (.ref c_NoTree) (.ref c_TooMany) = some false)
    (i_NoTree_WoodError : PySem.W.kitOne K (.ref c_NoTree) (.ref c_WoodError) = some true)
    (i_NoTree_ValueError : PySem.W.kitOne K (.ref c_NoTree) (.type "ValueError") = some true)
    (ex_TooMany : PySem.W.excIn K c_TooMany bmV "ValueError.__new__" = true)
    (ed_TooMany : PySem.W.hasDictIn K c_TooMany = true)
    (ega_TooMany : PySem.W.findIn K (.ref c_TooMany) "__getattribute__" = some (some (.builtin "BaseException.__getattribute__")))
    (eng_TooMany : PySem.W.findIn K (.ref c_TooMany) "__getattr__" = some none)
    (ecl_TooMany : PySem.W.findIn K (.ref c_TooMany) "__class__" = some (some (.builtin "object.__class__")))
    (egt_TooMany : PySem.W.specialIn K (.builtin "object.__class__") "__get__" = some (some (.builtin "getset_descriptor.__get__")))
    (etk_TooMany : PySem.W.takesIn K (.builtin "object.__class__") = some true)
    (emo_TooMany : PySem.W.mroIn K c_TooMany (.type "object") = some true)
    (emb_TooMany : PySem.W.mroIn K c_TooMany (.type "BaseException") = some true)
    (i_TooMany_NoTree : PySem.W.kitOne K (.ref c_TooMany) (.ref c_NoTree) = some false)
    (i_TooMany_TooMany : PySem.W.kitOne K (.ref c_TooMany) (.ref c_TooMany) = some true)
    (i_TooMany_WoodError : PySem.W.kitOne K (.ref c_TooMany) (.ref c_WoodError) = some true)
    (i_TooMany_ValueError : PySem.W.kitOne K (.ref c_TooMany) (.type "ValueError") = some true) :
    ∃ fd : FuncData, (∀ (s : Shared) (v : Value), BindsTo s fd ⟨[v], []⟩ [("_law_script", v)]) ∧ ∀ base : Heap, K.In base → base.Ns mainGlobals mg → FnOk l.prog w K mg base CX0 9 fa fd ["_law_script"] (sp_law K) := by
  have e := hfa.symm.trans (PySem.W.mg_of X G a30)
  cases e
  have F0 := fun_mk (st := s_packed) l0 c0 k0
  have D0 : Df K mg "packed" s_packed ["bits"] _ _ := ⟨F0, F0.binds (ps := ["bits"]) fun _ _ _ _ _ _ us hl => lens1 (C := fun us => bindArgs _ ⟨us, []⟩ = pure (List.zip (["bits"] : List Str) us)) hl (fun _ => rfl), PySem.W.mg_of X G a0⟩
  have F1 := fun_mk (st := s_check_row) l1 c1 k1
  have D1 : Df K mg "check_row" s_check_row ["bits"] _ _ := ⟨F1, F1.binds (ps := ["bits"]) fun _ _ _ _ _ _ us hl => lens1 (C := fun us => bindArgs _ ⟨us, []⟩ = pure (List.zip (["bits"] : List Str) us)) hl (fun _ => rfl), PySem.W.mg_of X G a1⟩
  have F2 := fun_mk (st := s_block_of) l2 c2 k2
  have D2 : Df K mg "block_of" s_block_of ["bits"] _ _ := ⟨F2, F2.binds (ps := ["bits"]) fun _ _ _ _ _ _ us hl => lens1 (C := fun us => bindArgs _ ⟨us, []⟩ = pure (List.zip (["bits"] : List Str) us)) hl (fun _ => rfl), PySem.W.mg_of X G a2⟩
  have F3 := fun_mk (st := s_bit_in) l3 c3 k3
  have D3 : Df K mg "bit_in" s_bit_in ["block", "k"] _ _ := ⟨F3, F3.binds (ps := ["block", "k"]) fun _ _ _ _ _ _ us hl => lens2 (C := fun us => bindArgs _ ⟨us, []⟩ = pure (List.zip (["block", "k"] : List Str) us)) hl (fun _ _ => rfl), PySem.W.mg_of X G a3⟩
  have F4 := fun_mk (st := s_bits_of) l4 c4 k4
  have D4 : Df K mg "bits_of" s_bits_of ["block", "upto"] _ _ := ⟨F4, F4.binds (ps := ["block", "upto"]) fun _ _ _ _ _ _ us hl => lens2 (C := fun us => bindArgs _ ⟨us, []⟩ = pure (List.zip (["block", "upto"] : List Str) us)) hl (fun _ _ => rfl), PySem.W.mg_of X G a4⟩
  have F5 := fun_mk (st := s_ones_in) l5 c5 k5
  have D5 : Df K mg "ones_in" s_ones_in ["block", "upto"] _ _ := ⟨F5, F5.binds (ps := ["block", "upto"]) fun _ _ _ _ _ _ us hl => lens2 (C := fun us => bindArgs _ ⟨us, []⟩ = pure (List.zip (["block", "upto"] : List Str) us)) hl (fun _ _ => rfl), PySem.W.mg_of X G a5⟩
  have F6 := fun_mk (st := s_nets_of) l6 c6 k6
  have D6 : Df K mg "nets_of" s_nets_of ["block", "upto"] _ _ := ⟨F6, F6.binds (ps := ["block", "upto"]) fun _ _ _ _ _ _ us hl => lens2 (C := fun us => bindArgs _ ⟨us, []⟩ = pure (List.zip (["block", "upto"] : List Str) us)) hl (fun _ _ => rfl), PySem.W.mg_of X G a6⟩
  have F7 := fun_mk (st := s_low_in) l7 c7 k7
  have D7 : Df K mg "low_in" s_low_in ["block", "upto"] _ _ := ⟨F7, F7.binds (ps := ["block", "upto"]) fun _ _ _ _ _ _ us hl => lens2 (C := fun us => bindArgs _ ⟨us, []⟩ = pure (List.zip (["block", "upto"] : List Str) us)) hl (fun _ _ => rfl), PySem.W.mg_of X G a7⟩
  have F8 := fun_mk (st := s_heap_of) l8 c8 k8
  have D8 : Df K mg "heap_of" s_heap_of ["numbers"] _ _ := ⟨F8, F8.binds (ps := ["numbers"]) fun _ _ _ _ _ _ us hl => lens1 (C := fun us => bindArgs _ ⟨us, []⟩ = pure (List.zip (["numbers"] : List Str) us)) hl (fun _ => rfl), PySem.W.mg_of X G a8⟩
  have F9 := fun_mk (st := s_size_of) l9 c9 k9
  have D9 : Df K mg "size_of" s_size_of ["many"] _ _ := ⟨F9, F9.binds (ps := ["many"]) fun _ _ _ _ _ _ us hl => lens1 (C := fun us => bindArgs _ ⟨us, []⟩ = pure (List.zip (["many"] : List Str) us)) hl (fun _ => rfl), PySem.W.mg_of X G a9⟩
  have F10 := fun_mk (st := s_lesser_of) l10 c10 k10
  have D10 : Df K mg "lesser_of" s_lesser_of ["one", "other"] _ _ := ⟨F10, F10.binds (ps := ["one", "other"]) fun _ _ _ _ _ _ us hl => lens2 (C := fun us => bindArgs _ ⟨us, []⟩ = pure (List.zip (["one", "other"] : List Str) us)) hl (fun _ _ => rfl), PySem.W.mg_of X G a10⟩
  have F11 := fun_mk (st := s_kept_row) l11 c11 k11
  have D11 : Df K mg "kept_row" s_kept_row ["bits"] _ _ := ⟨F11, F11.binds (ps := ["bits"]) fun _ _ _ _ _ _ us hl => lens1 (C := fun us => bindArgs _ ⟨us, []⟩ = pure (List.zip (["bits"] : List Str) us)) hl (fun _ => rfl), PySem.W.mg_of X G a11⟩
  have F12 := fun_mk (st := s_ahead_of) l12 c12 k12
  have D12 : Df K mg "ahead_of" s_ahead_of ["blocks"] _ _ := ⟨F12, F12.binds (ps := ["blocks"]) fun _ _ _ _ _ _ us hl => lens1 (C := fun us => bindArgs _ ⟨us, []⟩ = pure (List.zip (["blocks"] : List Str) us)) hl (fun _ => rfl), PySem.W.mg_of X G a12⟩
  have F13 := fun_mk (st := s_is_tree) l13 c13 k13
  have D13 : Df K mg "is_tree" s_is_tree ["bits"] _ _ := ⟨F13, F13.binds (ps := ["bits"]) fun _ _ _ _ _ _ us hl => lens1 (C := fun us => bindArgs _ ⟨us, []⟩ = pure (List.zip (["bits"] : List Str) us)) hl (fun _ => rfl), PySem.W.mg_of X G a13⟩
  have F14 := fun_mk (st := s_check_brackets) l14 c14 k14
  have D14 : Df K mg "check_brackets" s_check_brackets ["bits"] _ _ := ⟨F14, F14.binds (ps := ["bits"]) fun _ _ _ _ _ _ us hl => lens1 (C := fun us => bindArgs _ ⟨us, []⟩ = pure (List.zip (["bits"] : List Str) us)) hl (fun _ => rfl), PySem.W.mg_of X G a14⟩
  have F15 := fun_mk (st := s_kept_brackets) l15 c15 k15
  have D15 : Df K mg "kept_brackets" s_kept_brackets ["bits"] _ _ := ⟨F15, F15.binds (ps := ["bits"]) fun _ _ _ _ _ _ us hl => lens1 (C := fun us => bindArgs _ ⟨us, []⟩ = pure (List.zip (["bits"] : List Str) us)) hl (fun _ => rfl), PySem.W.mg_of X G a15⟩
  have F16 := fun_mk (st := s_low_of) l16 c16 k16
  have D16 : Df K mg "low_of" s_low_of ["tables", "number", "block"] _ _ := ⟨F16, F16.binds (ps := ["tables", "number", "block"]) fun _ _ _ _ _ _ us hl => lens3 (C := fun us => bindArgs _ ⟨us, []⟩ = pure (List.zip (["tables", "number", "block"] : List Str) us)) hl (fun _ _ _ => rfl), PySem.W.mg_of X G a16⟩
  have F17 := fun_mk (st := s_base_of) l17 c17 k17
  have D17 : Df K mg "base_of" s_base_of ["tables", "number"] _ _ := ⟨F17, F17.binds (ps := ["tables", "number"]) fun _ _ _ _ _ _ us hl => lens2 (C := fun us => bindArgs _ ⟨us, []⟩ = pure (List.zip (["tables", "number"] : List Str) us)) hl (fun _ _ => rfl), PySem.W.mg_of X G a17⟩
  have F18 := fun_mk (st := s_end_within) l18 c18 k18
  have D18 : Df K mg "end_within" s_end_within ["number", "upto"] _ _ := ⟨F18, F18.binds (ps := ["number", "upto"]) fun _ _ _ _ _ _ us hl => lens2 (C := fun us => bindArgs _ ⟨us, []⟩ = pure (List.zip (["number", "upto"] : List Str) us)) hl (fun _ _ => rfl), PySem.W.mg_of X G a18⟩
  have F19 := fun_mk (st := s_check_depths) l19 c19 k19
  have D19 : Df K mg "check_depths" s_check_depths ["depths"] _ _ := ⟨F19, F19.binds (ps := ["depths"]) fun _ _ _ _ _ _ us hl => lens1 (C := fun us => bindArgs _ ⟨us, []⟩ = pure (List.zip (["depths"] : List Str) us)) hl (fun _ => rfl), PySem.W.mg_of X G a19⟩
  have F20 := fun_mk (st := s_brackets_of) l20 c20 k20
  have D20 : Df K mg "brackets_of" s_brackets_of ["depths"] _ _ := ⟨F20, F20.binds (ps := ["depths"]) fun _ _ _ _ _ _ us hl => lens1 (C := fun us => bindArgs _ ⟨us, []⟩ = pure (List.zip (["depths"] : List Str) us)) hl (fun _ => rfl), PySem.W.mg_of X G a20⟩
  have F21 := fun_mk (st := s_kept_tree) l21 c21 k21
  have D21 : Df K mg "kept_tree" s_kept_tree ["depths"] _ _ := ⟨F21, F21.binds (ps := ["depths"]) fun _ _ _ _ _ _ us hl => lens1 (C := fun us => bindArgs _ ⟨us, []⟩ = pure (List.zip (["depths"] : List Str) us)) hl (fun _ => rfl), PySem.W.mg_of X G a21⟩
  have F22 := fun_mk (st := s_law_cell_at) l22 c22 k22
  have D22 : Df K mg "_law_cell_at" s_law_cell_at ["_law_script", "_law_k"] _ _ := ⟨F22, F22.binds (ps := ["_law_script", "_law_k"]) fun _ _ _ _ _ _ us hl => lens2 (C := fun us => bindArgs _ ⟨us, []⟩ = pure (List.zip (["_law_script", "_law_k"] : List Str) us)) hl (fun _ _ => rfl), PySem.W.mg_of X G a22⟩
  have F23 := fun_mk (st := s_law_whole) l23 c23 k23
  have D23 : Df K mg "_law_whole" s_law_whole ["_law_found"] _ _ := ⟨F23, F23.binds (ps := ["_law_found"]) fun _ _ _ _ _ _ us hl => lens1 (C := fun us => bindArgs _ ⟨us, []⟩ = pure (List.zip (["_law_found"] : List Str) us)) hl (fun _ => rfl), PySem.W.mg_of X G a23⟩
  have F24 := fun_mk (st := s_law_depths) l24 c24 k24
  have D24 : Df K mg "_law_depths" s_law_depths ["_law_script"] _ _ := ⟨F24, F24.binds (ps := ["_law_script"]) fun _ _ _ _ _ _ us hl => lens1 (C := fun us => bindArgs _ ⟨us, []⟩ = pure (List.zip (["_law_script"] : List Str) us)) hl (fun _ => rfl), PySem.W.mg_of X G a24⟩
  have F25 := fun_mk (st := s_law_walked) l25 c25 k25
  have D25 : Df K mg "_law_walked" s_law_walked ["_law_blocks", "_law_depths_here"] _ _ := ⟨F25, F25.binds (ps := ["_law_blocks", "_law_depths_here"]) fun _ _ _ _ _ _ us hl => lens2 (C := fun us => bindArgs _ ⟨us, []⟩ = pure (List.zip (["_law_blocks", "_law_depths_here"] : List Str) us)) hl (fun _ _ => rfl), PySem.W.mg_of X G a25⟩
  have F26 := fun_mk (st := s_law_heap) l26 c26 k26
  have D26 : Df K mg "_law_heap" s_law_heap ["_law_nodes", "_law_lows"] _ _ := ⟨F26, F26.binds (ps := ["_law_nodes", "_law_lows"]) fun _ _ _ _ _ _ us hl => lens2 (C := fun us => bindArgs _ ⟨us, []⟩ = pure (List.zip (["_law_nodes", "_law_lows"] : List Str) us)) hl (fun _ _ => rfl), PySem.W.mg_of X G a26⟩
  have F27 := fun_mk (st := s_law_good) l27 c27 k27
  have D27 : Df K mg "_law_good" s_law_good ["_law_found", "_law_depths_here"] _ _ := ⟨F27, F27.binds (ps := ["_law_found", "_law_depths_here"]) fun _ _ _ _ _ _ us hl => lens2 (C := fun us => bindArgs _ ⟨us, []⟩ = pure (List.zip (["_law_found", "_law_depths_here"] : List Str) us)) hl (fun _ _ => rfl), PySem.W.mg_of X G a27⟩
  have F28 := fun_mk (st := s_law_no_tree) l28 c28 k28
  have D28 : Df K mg "_law_no_tree" s_law_no_tree ["_law_depths_here"] _ _ := ⟨F28, F28.binds (ps := ["_law_depths_here"]) fun _ _ _ _ _ _ us hl => lens1 (C := fun us => bindArgs _ ⟨us, []⟩ = pure (List.zip (["_law_depths_here"] : List Str) us)) hl (fun _ => rfl), PySem.W.mg_of X G a28⟩
  have F29 := fun_mk (st := s_law_too_many) l29 c29 k29
  have D29 : Df K mg "_law_too_many" s_law_too_many ["_law_depths_here"] _ _ := ⟨F29, F29.binds (ps := ["_law_depths_here"]) fun _ _ _ _ _ _ us hl => lens1 (C := fun us => bindArgs _ ⟨us, []⟩ = pure (List.zip (["_law_depths_here"] : List Str) us)) hl (fun _ => rfl), PySem.W.mg_of X G a29⟩
  have F30 := fun_mk (st := s_law) l30 c30 k30
  have D30 : Df K mg "law" s_law ["_law_script"] _ _ := ⟨F30, F30.binds (ps := ["_law_script"]) fun _ _ _ _ _ _ us hl => lens1 (C := fun us => bindArgs _ ⟨us, []⟩ = pure (List.zip (["_law_script"] : List Str) us)) hl (fun _ => rfl), PySem.W.mg_of X G a30⟩
  have T : Tx K mg ⟨_, _, _, _, _, _, _, _, _, _, _, _, _, _, _, _, _, _, _, _, _, _, _, _, _, _, _, _, _, _, _, _, _, _, _, _, _, _, _, _, _, _, _, _, _, _, _, _, _, _, _, _, _, _, _, _, _, _, _, _, _, _, _, _, _, _, c_NoTree, c_TooMany, c_WoodError⟩ := ⟨D0, D1, D2, D3, D4, D5, D6, D7, D8, D9, D10, D11, D12, D13, D14, D15, D16, D17, D18, D19, D20, D21, D22, D23, D24, D25, D26, D27, D28, D29, D30, PySem.W.mg_none_of X G z_ValueError, PySem.W.mg_none_of X G z_bool, PySem.W.mg_none_of X G z_enumerate, PySem.W.mg_none_of X G z_int, PySem.W.mg_none_of X G z_isinstance, PySem.W.mg_none_of X G z_len, PySem.W.mg_none_of X G z_list, PySem.W.mg_none_of X G z_min, PySem.W.mg_none_of X G z_range, PySem.W.mg_none_of X G z_reversed, PySem.W.mg_none_of X G z_sum, PySem.W.mg_none_of X G z_tuple, PySem.W.mg_none_of X G z_zip, PySem.W.mg_of X G g_BLOCK_BITS, PySem.W.mg_of X G g_MOST_BITS, PySem.W.mg_of X G g_MOST_NODES, PySem.W.mg_of X G g_MOST_NUMBERS, PySem.W.mg_of X G q_NoTree, PySem.W.mg_of X G q_TooMany, PySem.W.mg_of X G q_WoodError, ⟨PySem.W.mg_of X G q_NoTree, ex_NoTree⟩, ⟨ed_NoTree, ega_NoTree, eng_NoTree, ecl_NoTree, egt_NoTree, etk_NoTree, emo_NoTree, emb_NoTree⟩, i_NoTree_NoTree, i_NoTree_TooMany, i_NoTree_WoodError, i_NoTree_ValueError, ⟨PySem.W.mg_of X G q_TooMany, ex_TooMany⟩, ⟨ed_TooMany, ega_TooMany, eng_TooMany, ecl_TooMany, egt_TooMany, etk_TooMany, emo_TooMany, emb_TooMany⟩, i_TooMany_NoTree, i_TooMany_TooMany, i_TooMany_WoodError, i_TooMany_ValueError⟩
  exact ⟨_, fun s v => .of_eq rfl, fun base _ _ => ok_law T⟩
end Tw
open PySem PySem.W PyProof.Rows
set_option maxRecDepth 100000 in
set_option maxHeartbeats 0 in
theorem PySem.Challenge.cw_thinwood_k43_a_tree_kept_holds : PySem.Challenge.rw_thinwood_k43_a_tree_kept.Holds := by
  w_on; o_law; k_head; (case hw => w_witness2)
  k_fill
  refine L2.walk_of (l := PySem.Challenge.rw_thinwood_k43_a_tree_kept) (n := 63) (k := 9) (x := "_law_script") (CX := fun _ => L2.CX0) (sp := fun w => Tw.sp_law _) rfl (by decide) rfl ⟨rfl, by decide, by decide⟩ (fun w h Y => PySem.W.kIn_of Y) ?F (fun _ _ a ns hl _ hS => ⟨a, ns, rfl, hS, hl, fun _ => rfl⟩) (fun _ _ _ _ _ z => z)
  case F =>
    intro w mg fa h KX G hmg
    refine' Tw.all_mk KX G hmg ?a0 ?l0 ?c0 ?k0 ?a1 ?l1 ?c1 ?k1 ?a2 ?l2 ?c2 ?k2 ?a3 ?l3 ?c3 ?k3 ?a4 ?l4 ?c4 ?k4 ?a5 ?l5 ?c5 ?k5 ?a6 ?l6 ?c6 ?k6 ?a7 ?l7 ?c7 ?k7 ?a8 ?l8 ?c8 ?k8 ?a9 ?l9 ?c9 ?k9 ?a10 ?l10 ?c10 ?k10 ?a11 ?l11 ?c11 ?k11 ?a12 ?l12 ?c12 ?k12 ?a13 ?l13 ?c13 ?k13 ?a14 ?l14 ?c14 ?k14 ?a15 ?l15 ?c15 ?k15 ?a16 ?l16 ?c16 ?k16 ?a17 ?l17 ?c17 ?k17 ?a18 ?l18 ?c18 ?k18 ?a19 ?l19 ?c19 ?k19 ?a20 ?l20 ?c20 ?k20 ?a21 ?l21 ?c21 ?k21 ?a22 ?l22 ?c22 ?k22 ?a23 ?l23 ?c23 ?k23 ?a24 ?l24 ?c24 ?k24 ?a25 ?l25 ?c25 ?k25 ?a26 ?l26 ?c26 ?k26 ?a27 ?l27 ?c27 ?k27 ?a28 ?l28 ?c28 ?k28 ?a29 ?l29 ?c29 ?k29 ?a30 ?l30 ?c30 ?k30 ?z_ValueError ?z_bool ?z_enumerate ?z_int ?z_isinstance ?z_len ?z_list ?z_min ?z_range ?z_reversed ?z_sum ?z_tuple ?z_zip ?g_BLOCK_BITS ?g_MOST_BITS ?g_MOST_NODES ?g_MOST_NUMBERS ?q_NoTree ?q_TooMany ?q_WoodError ?ex_NoTree ?ed_NoTree ?ega_NoTree ?eng_NoTree ?ecl_NoTree ?egt_NoTree ?etk_NoTree ?emo_NoTree ?emb_NoTree ?i_NoTree_NoTree ?i_NoTree_TooMany ?i_NoTree_WoodError ?i_NoTree_ValueError ?ex_TooMany ?ed_TooMany ?ega_TooMany ?eng_TooMany ?ecl_TooMany ?egt_TooMany ?etk_TooMany ?emo_TooMany ?emb_TooMany ?i_TooMany_NoTree ?i_TooMany_TooMany ?i_TooMany_WoodError ?i_TooMany_ValueError
    (case a0 => k_is); (case l0 => k_is); (case c0 => k_is); (case k0 => k_is); (case a1 => k_is); (case l1 => k_is); (case c1 => k_is); (case k1 => k_is); (case a2 => k_is); (case l2 => k_is); (case c2 => k_is); (case k2 => k_is); (case a3 => k_is); (case l3 => k_is); (case c3 => k_is); (case k3 => k_is); (case a4 => k_is); (case l4 => k_is); (case c4 => k_is); (case k4 => k_is); (case a5 => k_is); (case l5 => k_is); (case c5 => k_is); (case k5 => k_is); (case a6 => k_is); (case l6 => k_is); (case c6 => k_is); (case k6 => k_is); (case a7 => k_is); (case l7 => k_is); (case c7 => k_is); (case k7 => k_is); (case a8 => k_is); (case l8 => k_is); (case c8 => k_is); (case k8 => k_is); (case a9 => k_is); (case l9 => k_is); (case c9 => k_is); (case k9 => k_is); (case a10 => k_is); (case l10 => k_is); (case c10 => k_is); (case k10 => k_is); (case a11 => k_is); (case l11 => k_is); (case c11 => k_is); (case k11 => k_is); (case a12 => k_is); (case l12 => k_is); (case c12 => k_is); (case k12 => k_is); (case a13 => k_is); (case l13 => k_is); (case c13 => k_is); (case k13 => k_is); (case a14 => k_is); (case l14 => k_is); (case c14 => k_is); (case k14 => k_is); (case a15 => k_is); (case l15 => k_is); (case c15 => k_is); (case k15 => k_is); (case a16 => k_is); (case l16 => k_is); (case c16 => k_is); (case k16 => k_is); (case a17 => k_is); (case l17 => k_is); (case c17 => k_is); (case k17 => k_is); (case a18 => k_is); (case l18 => k_is); (case c18 => k_is); (case k18 => k_is); (case a19 => k_is); (case l19 => k_is); (case c19 => k_is); (case k19 => k_is); (case a20 => k_is); (case l20 => k_is); (case c20 => k_is); (case k20 => k_is); (case a21 => k_is); (case l21 => k_is); (case c21 => k_is); (case k21 => k_is); (case a22 => k_is); (case l22 => k_is); (case c22 => k_is); (case k22 => k_is); (case a23 => k_is); (case l23 => k_is); (case c23 => k_is); (case k23 => k_is); (case a24 => k_is); (case l24 => k_is); (case c24 => k_is); (case k24 => k_is); (case a25 => k_is); (case l25 => k_is); (case c25 => k_is); (case k25 => k_is); (case a26 => k_is); (case l26 => k_is); (case c26 => k_is); (case k26 => k_is); (case a27 => k_is); (case l27 => k_is); (case c27 => k_is); (case k27 => k_is); (case a28 => k_is); (case l28 => k_is); (case c28 => k_is); (case k28 => k_is); (case a29 => k_is); (case l29 => k_is); (case c29 => k_is); (case k29 => k_is); (case a30 => k_is); (case l30 => k_is); (case c30 => k_is); (case k30 => k_is); (case z_ValueError => k_is); (case z_bool => k_is); (case z_enumerate => k_is); (case z_int => k_is); (case z_isinstance => k_is); (case z_len => k_is); (case z_list => k_is); (case z_min => k_is); (case z_range => k_is); (case z_reversed => k_is); (case z_sum => k_is); (case z_tuple => k_is); (case z_zip => k_is); (case g_BLOCK_BITS => k_is); (case g_MOST_BITS => k_is); (case g_MOST_NODES => k_is); (case g_MOST_NUMBERS => k_is); (case q_NoTree => k_is); (case q_TooMany => k_is); (case q_WoodError => k_is); (case ex_NoTree => k_exc); (case ed_NoTree => k_is); (case ega_NoTree => k_is); (case eng_NoTree => k_is); (case ecl_NoTree => k_is); (case egt_NoTree => k_is); (case etk_NoTree => k_is); (case emo_NoTree => k_is); (case emb_NoTree => k_is); (case i_NoTree_NoTree => kit_is); (case i_NoTree_TooMany => kit_is); (case i_NoTree_WoodError => kit_is); (case i_NoTree_ValueError => kit_is); (case ex_TooMany => k_exc); (case ed_TooMany => k_is); (case ega_TooMany => k_is); (case eng_TooMany => k_is); (case ecl_TooMany => k_is); (case egt_TooMany => k_is); (case etk_TooMany => k_is); (case emo_TooMany => k_is); (case emb_TooMany => k_is); (case i_TooMany_NoTree => kit_is); (case i_TooMany_TooMany => kit_is); (case i_TooMany_WoodError => kit_is); (case i_TooMany_ValueError => kit_is)


