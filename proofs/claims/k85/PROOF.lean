import PyProof.Rows.All
import Wide.All
import OpenK.AllK
import Wide.FinOn
import Lean
import PyProof.EqAt
import PyProof.EqKinds
import PyProof.TupleCall
import PySem.Challenge.RW_thinwood_k85_rows_read
-- CHANGE: your row's module here, as the last of these rows
set_option Elab.async false
set_option linter.all false
set_option maxRecDepth 100000
/-! THE HAND LAYER, for ints, bools, texts, own classes, LISTS and tuples (index, slices, in, append, pop ..), calls, loops. Paste it whole ahead of your own text; what your proof does not reach may be deleted. -/
namespace L2
open PySem PySem.Spec PyProof.Rows

/-- a key: an int or a str -/
abbrev Key := Sum Int Str
def keyIs : Key → Value → Bool
  | .inl k, v => Value.isInt k v
  | .inr x, v => Value.isStrOf x v
def keyH (w : World) : Key → Int
  | .inl k => hashInt k
  | .inr x => hashStr w x
theorem keyIs_shape : ∀ {k : Key} {v : Value}, keyIs k v = true → (∃ i t, k = Sum.inl i ∧ v = Value.int i t) ∨ (∃ x t, k = Sum.inr x ∧ v = Value.str x t)
  | .inl i, v, h => by
    obtain ⟨t, e⟩ := Value.isInt_shape (k := i) (v := v) h
    exact .inl ⟨i, t, rfl, e⟩
  | .inr x, v, h => by
    obtain ⟨t, e⟩ := Value.isStrOf_shape (x := x) (v := v) h
    exact .inr ⟨x, t, rfl, e⟩
theorem key_ll (a b : Int) : decide ((Sum.inl a : Key) = Sum.inl b) = (a == b) := by
  by_cases e : a = b
  · subst e; simp
  · have h : ¬ (Sum.inl a : Key) = Sum.inl b := fun q => e (Sum.inl.inj q)
    rw [decide_eq_false h]
    exact (beq_eq_false_iff_ne.mpr e).symm
theorem key_rr (a b : Str) : decide ((Sum.inr a : Key) = Sum.inr b) = decide (a = b) := by
  by_cases e : a = b
  · subst e; simp
  · have h : ¬ (Sum.inr a : Key) = Sum.inr b := fun q => e (Sum.inr.inj q)
    rw [decide_eq_false h, decide_eq_false e]
theorem key_lr (a : Int) (b : Str) : decide ((Sum.inl a : Key) = Sum.inr b) = false := decide_eq_false (fun q => nomatch q)
theorem key_rl (a : Str) (b : Int) : decide ((Sum.inr a : Key) = Sum.inl b) = false := decide_eq_false (fun q => nomatch q)

def mixKind (prog : Program) (w : World) : PySem.KeyKind prog w Key where
  is := keyIs
  hash := keyH w
  inj := fun v a b ha hb => by
    rcases keyIs_shape ha with ⟨i, t, rfl, rfl⟩ | ⟨x, t, rfl, rfl⟩
    · rcases keyIs_shape hb with ⟨j, u, rfl, e⟩ | ⟨y, u, rfl, e⟩
      · injection e with e1 _; rw [e1]
      · exact nomatch e
    · rcases keyIs_shape hb with ⟨j, u, rfl, e⟩ | ⟨y, u, rfl, e⟩
      · exact nomatch e
      · injection e with e1 _; rw [e1]
  byValue := fun k v h => by
    rcases keyIs_shape h with ⟨i, t, rfl, rfl⟩ | ⟨x, t, rfl, rfl⟩ <;> rfl
  pyHash := fun hv h => by
    rcases keyIs_shape hv with ⟨i, t, rfl, rfl⟩ | ⟨x, t, rfl, rfl⟩
    · exact wpAny_pyHash_int h
    · exact wpAny_pyHash_str h
  eqBool := fun hu hv h => by
    rcases keyIs_shape hu with ⟨i, t, rfl, rfl⟩ | ⟨x, t, rfl, rfl⟩
    · rcases keyIs_shape hv with ⟨j, u, rfl, rfl⟩ | ⟨y, u, rfl, rfl⟩
      · rw [key_ll] at h; exact wpAny_eqBool_int h
      · rw [key_lr] at h; exact SeqAt.EqAt.int_str i t y u _ _ _ _ h
    · rcases keyIs_shape hv with ⟨j, u, rfl, rfl⟩ | ⟨y, u, rfl, rfl⟩
      · rw [key_rl] at h; exact SeqAt.EqAt.str_int x t j u _ _ _ _ h
      · rw [key_rr] at h; exact wpAny_eqBool_str h
  «strs» := fun k x t v h => by
    rcases keyIs_shape h with ⟨i, u, rfl, e⟩ | ⟨y, u, rfl, e⟩
    · exact nomatch e
    · injection e with e1 _
      subst e1
      cases v <;> rfl

end L2

namespace L2
open PySem PySem.Spec PyProof.Rows

/-- a value, without the heap -/
inductive V where
  | non | bl (b : Bool) | int (i : Int) | str (x : Str) | byt (b : Array UInt8) | flt (b : UInt64) | ref (a : Addr) | ty (n : String)
  deriving DecidableEq

def RelV : V → Value → Prop
  | .non, u => u = Value.none
  | .bl b, u => u = Value.bool b
  | .int i, u => ∃ t, u = Value.int i t
  | .str x, u => ∃ t, u = Value.str x t
  | .byt b, u => ∃ t, u = Value.bytes b t
  | .flt b, u => ∃ t, u = Value.float b t
  | .ref a, u => u = Value.ref a
  | .ty n, u => u = Value.type n

abbrev Vals : List V → List Value → Prop := Paired RelV
theorem Vals.length {xs : List V} {us : List Value} (r : Vals xs us) : xs.length = us.length := Paired.length r
theorem Vals.get : ∀ {xs : List V} {us : List Value} {i : Nat} {x : V}, Vals xs us → xs[i]? = some x → ∃ u, us[i]? = some u ∧ RelV x u
  | _, _, _, _, .nil, e => by simp at e
  | _, _, 0, _, .cons r _, e => by simp at e; subst e; exact ⟨_, rfl, r⟩
  | _, _, i + 1, x, .cons _ t, e => by
    obtain ⟨u, h1, h2⟩ := Vals.get (i := i) (x := x) t (by simpa using e)
    exact ⟨u, by simpa using h1, h2⟩
theorem Vals.append : ∀ {xs ys : List V} {us ws : List Value}, Vals xs us → Vals ys ws → Vals (xs ++ ys) (us ++ ws)
  | _, _, _, _, .nil, s => s
  | _, _, _, _, .cons r t, s => .cons r (Vals.append t s)
theorem Vals.take : ∀ {xs : List V} {us : List Value} (n : Nat), Vals xs us → Vals (xs.take n) (us.take n)
  | _, _, 0, _ => .nil
  | _, _, _ + 1, .nil => .nil
  | _, _, n + 1, .cons r t => .cons r (Vals.take n t)
theorem Vals.drop : ∀ {xs : List V} {us : List Value} (n : Nat), Vals xs us → Vals (xs.drop n) (us.drop n)
  | _, _, 0, r => r
  | _, _, _ + 1, .nil => .nil
  | _, _, n + 1, .cons _ t => Vals.drop n t
def RelO : Option V → Option Value → Prop
  | some v, some u => RelV v u
  | none, none => True
  | _, _ => False
def KV {κ : Type} : List (κ × V) → List (κ × Value) → Prop := Paired fun (p : κ × V) (q : κ × Value) => p.1 = q.1 ∧ RelV p.2 q.2

/-- a key of a dict (00_mix): an int or a text -/
def kV : Key → V
  | .inl i => .int i
  | .inr x => .str x

/-- what stands at a tracked address -/
inductive HO where
  /-- a list -/
  | lst (xs : List V)
  /-- a tuple (never changes) -/
  | tup (xs : List V)
  /-- a dict whose keys are ints and texts; one whose keys are tuples of ints and texts (the empty one is both) -/
  | dK (kvs : List (Key × V)) | dT (kvs : List (List Key × V))
  /-- a set of ints: its members, its size -/
  | set (S : Int → Bool) (n : Nat)
  /-- an instance of the class at C, its dict at dx, its attributes -/
  | ins (C dx : Addr) (fs : List (Str × V))
  /-- the dict of the instance at x -/
  | own (x : Addr)
  /-- the dict of an exception -/
  | xd (fs : List (Str × V))
  /-- a bound method, f of x -/
  | met (f x : Addr)
  /-- a range object lo, lo + 1, .. below hi -/
  | rng (lo hi : Int)
  /-- a thing that is known to the object (the script; a dict while a loop walks it): read, never written while it is so -/
  | frz (o : Obj) (u : HO)
  /-- a code object's table -/
  | tbl (ps : Array Value)
  /-- any other thing, by what is true of its one object (a def of one's own: SetO a S n := HO.ext fun h => ..) -/
  | ext (φ : Heap → Prop)

abbrev Hp := Addr → Option HO
def upd (H : Hp) (a : Addr) (o : HO) : Hp := fun b => if b = a then some o else H b
theorem upd_same {H : Hp} {a : Addr} {o : HO} : upd H a o a = some o := by unfold upd; rw [if_pos rfl]
theorem upd_ne {H : Hp} {a b : Addr} {o : HO} (h : b ≠ a) : upd H a o b = H b := by unfold upd; rw [if_neg h]
theorem upd_upd {H : Hp} {a : Addr} {o u : HO} : upd (upd H a o) a u = upd H a u := by
  funext b; unfold upd; split <;> rfl
theorem ne_of_none {H : Hp} {a b : Addr} {o : HO} (h : H a = some o) (h' : H b = none) : a ≠ b := by
  intro e; subst e; rw [h] at h'; cases h'

section
variable (P : Program) (w : World)
def ObjOk (H : Hp) (h : Heap) (a : Addr) : HO → Prop
  | .lst xs => xs.length ≤ sizeLine ∧ ∃ (its : List Value) (n : Nat), Vals xs its ∧ h.get? a = some { cls := .type "list", data := .seq its.toArray n }
  | .tup xs => xs.length ≤ sizeLine ∧ ∃ its : List Value, Vals xs its ∧ IsTup h a its.toArray
  | .dK kvs => kvs.length ≤ sizeLine ∧ (a == sysModules) = false ∧ ∃ vs, KV kvs vs ∧ h.DictOf (mixKind P w) a vs
  | .dT kvs => kvs.length ≤ sizeLine ∧ (a == sysModules) = false ∧ ∃ xs : List (List Key × Addr × Value),
      Paired (fun (p : List Key × V) (q : List Key × Addr × Value) => p.1 = q.1 ∧ H q.2.1 = some (.tup (p.1.map kV)) ∧ RelV p.2 q.2.2) kvs xs ∧
      ∃ o es ep, h.get? a = some o ∧ o.ExactDict ∧ o.data = .dict es ep ∧ es.toList = xs.map (entryOfKey (tupleKind (mixKind P w))) ∧ (xs.map (·.1)).Nodup
  | .set S n => h.SetOf (intKind P w) a S n
  | .ins C dx fs => H dx = some (.own a) ∧ fs.length ≤ 1000 ∧ dx ≠ a ∧ h.get? a = some (PySem.W.instObj C dx) ∧
      ∃ mA, h.Ns1 dx mA ∧ (∀ f, RelO (fs.lookup f) (mA f)) ∧ PySem.Within mA (fs.map (·.1))
  | .own _ => ∃ o, h.get? a = some o
  | .xd fs => ∃ mA, h.Ns1 a mA ∧ ∀ f, RelO (fs.lookup f) (mA f)
  | .rng lo hi => ∃ t u v, h.get? a = some { cls := .type "range", data := .fields #[.int lo t, .int hi u, .int 1 v] }
  | .frz o u => h.get? a = some o ∧ ObjOk H h a u
  | .tbl ps => h.get? a = some { cls := .none, data := .fields ps }
  | .met f x => h.get? a = some (PySem.W.methodObj (.ref f) (.ref x))
  | .ext φ => φ h ∧ (∃ o, h.get? a = some o) ∧ ∀ h1 h2 : Heap, φ h1 → (∀ o, h1.get? a = some o → h2.get? a = some o) → φ h2
/-- the abstract heap is held -/
def HOk (H : Hp) (h : Heap) : Prop := ∀ a o, H a = some o → ObjOk P w H h a o
end

section
variable {P : Program} {w : World} {H H' : Hp} {h h' : Heap} {a : Addr} {o : HO}
theorem ObjOk.lt (x : ObjOk P w H h a o) : a < h.objs.size := by
  cases o with
  | lst xs => obtain ⟨_, _, _, _, e⟩ := x; exact Heap.lt_size e
  | tup xs => obtain ⟨_, _, _, p⟩ := x; exact p.lt
  | dK kvs => obtain ⟨_, _, _, _, o, _, _, e, _⟩ := x; exact Heap.lt_size e
  | dT kvs => obtain ⟨_, _, _, _, o, _, _, e, _⟩ := x; exact Heap.lt_size e
  | set S n => obtain ⟨o, _, _, _, e, _⟩ := x; exact Heap.lt_size e
  | ins C dx fs => obtain ⟨_, _, _, e, _⟩ := x; exact Heap.lt_size e
  | own y => obtain ⟨_, e⟩ := x; exact Heap.lt_size e
  | xd fs => obtain ⟨_, ⟨_, _, _, e, _⟩, _⟩ := x; exact Heap.lt_size e
  | rng lo hi => obtain ⟨_, _, _, e⟩ := x; exact Heap.lt_size e
  | frz ob u => obtain ⟨e, _⟩ := x; exact Heap.lt_size e
  | tbl ps => exact Heap.lt_size (show h.get? a = some _ from x)
  | met f y => exact Heap.lt_size (show h.get? a = some _ from x)
  | ext φ => obtain ⟨_, ⟨_, e⟩, _⟩ := x; exact Heap.lt_size e
theorem Paired.mapP {α β : Type} {F G : α → β → Prop} : ∀ {l₁ : List α} {l₂ : List β}, Paired F l₁ l₂ → (∀ a b, F a b → G a b) → Paired G l₁ l₂
  | _, _, .nil, _ => .nil
  | _, _, .cons r t, f => .cons (f _ _ r) (Paired.mapP t f)
/-- what an object's description leans on: its own object, its own dict, the tuples -/
theorem ObjOk.stay (x : ObjOk P w H h a o) (k : ∀ b u, (b = a ∨ H b = some (.own a)) → h.get? b = some u → h'.get? b = some u)
    (ho : ∀ b, H b = some (.own a) → H' b = some (.own a)) (ht : ∀ b xs, H b = some (.tup xs) → H' b = some (.tup xs)) : ObjOk P w H' h' a o := by
  induction o with
  | lst xs => obtain ⟨z, its, n, r, e⟩ := x; exact ⟨z, its, n, r, k _ _ (.inl rfl) e⟩
  | tup xs => obtain ⟨z, its, r, ob, e, c⟩ := x; exact ⟨z, its, r, ob, k _ _ (.inl rfl) e, c⟩
  | dK kvs => obtain ⟨z, y, vs, r, ob, es, ep, e, c⟩ := x; exact ⟨z, y, vs, r, ob, es, ep, k _ _ (.inl rfl) e, c⟩
  | dT kvs =>
    obtain ⟨z, y, xs, r, ob, es, ep, e, c⟩ := x
    exact ⟨z, y, xs, Paired.mapP r fun p q z => ⟨z.1, ht _ _ z.2.1, z.2.2⟩, ob, es, ep, k _ _ (.inl rfl) e, c⟩
  | set S n => obtain ⟨ob, es, ep, t, e, c⟩ := x; exact ⟨ob, es, ep, t, k _ _ (.inl rfl) e, c⟩
  | ins C dx fs =>
    obtain ⟨d, z, ne, e, mA, ⟨od, es, ep, e2, c⟩, r⟩ := x
    exact ⟨ho _ d, z, ne, k _ _ (.inl rfl) e, mA, ⟨od, es, ep, k _ _ (.inr d) e2, c⟩, r⟩
  | own y => obtain ⟨ob, e⟩ := x; exact ⟨ob, k _ _ (.inl rfl) e⟩
  | xd fs => obtain ⟨mA, ⟨od, es, ep, e, c⟩, r⟩ := x; exact ⟨mA, ⟨od, es, ep, k _ _ (.inl rfl) e, c⟩, r⟩
  | rng lo hi => obtain ⟨t, u, v, e⟩ := x; exact ⟨t, u, v, k _ _ (.inl rfl) e⟩
  | frz ob u ih => obtain ⟨e, q⟩ := x; exact ⟨k _ _ (.inl rfl) e, ih q⟩
  | tbl ps =>
    have e : h.get? a = some { cls := .none, data := .fields ps } := x
    show h'.get? a = some { cls := .none, data := .fields ps }
    exact k a _ (.inl rfl) e
  | met f y =>
    have e : h.get? a = some (PySem.W.methodObj (.ref f) (.ref y)) := x
    show h'.get? a = some (PySem.W.methodObj (.ref f) (.ref y))
    exact k a _ (.inl rfl) e
  | ext φ => obtain ⟨p, ⟨o, e⟩, st⟩ := x; exact ⟨st _ _ p fun o q => k _ _ (.inl rfl) q, ⟨o, k _ _ (.inl rfl) e⟩, st⟩
theorem HOk.lt (x : HOk P w H h) (e : H a = some o) : a < h.objs.size := (x a o e).lt
theorem HOk.fresh (x : HOk P w H h) (e : h.objs.size ≤ a) : H a = none := by
  cases q : H a with
  | none => rfl
  | some u => exact absurd (Nat.lt_of_lt_of_le (x.lt q) e) (Nat.lt_irrefl _)
/-- every object of the heap is kept -/
theorem HOk.kept (x : HOk P w H h) (k : ∀ b u, h.get? b = some u → h'.get? b = some u) : HOk P w H h' := fun a o e =>
  (x a o e).stay (fun b u _ q => k b u q) (fun _ q => q) fun _ _ q => q
/-- a new object is laid and tracked -/
theorem HOk.laid (x : HOk P w H h) (k : ∀ b u, h.get? b = some u → h'.get? b = some u) (hp : h.objs.size ≤ a) (new : ObjOk P w (upd H a o) h' a o) : HOk P w (upd H a o) h' := fun b u e => by
  have hn := x.fresh hp
  by_cases hb : b = a
  · subst hb; rw [upd_same] at e; cases e; exact new
  · rw [upd_ne hb] at e
    exact (x b u e).stay (fun c v _ q => k c v q) (fun c q => by rw [upd_ne (ne_of_none q hn)]; exact q) fun c xs q => by rw [upd_ne (ne_of_none q hn)]; exact q
end

/-- what may be read as u: it is u, or a known u -/
def Rd (H : Hp) (a : Addr) (u : HO) : Prop := H a = some u ∨ ∃ o, H a = some (.frz o u)
theorem Rd.ok {P : Program} {w : World} {H : Hp} {h : Heap} {a : Addr} {u : HO} (r : Rd H a u) (x : HOk P w H h) : ObjOk P w H h a u := by
  rcases r with r | ⟨o, r⟩
  · exact x a u r
  · obtain ⟨_, q⟩ := x a _ r
    exact q
/-- what may be written -/
def Mut : Option HO → Prop
  | some (.lst _) => True
  | some (.dK _) => True
  | some (.dT _) => True
  | some (.set _ _) => True
  | some (.ins _ _ _) => True
  | some (.ext _) => True
  | _ => False
section
variable {P : Program} {w : World} {H : Hp} {h h' : Heap} {x e : Addr} {o' : HO}
/-- the object at e is changed: x itself, or the dict of the instance x -/
theorem HOk.write (ok : HOk P w H h) (mu : Mut (H x)) (he : e = x ∨ H e = some (.own x)) (k : ∀ b u, b ≠ e → h.get? b = some u → h'.get? b = some u) (heo : ∃ u, h'.get? e = some u)
    (new : ObjOk P w (upd H x o') h' x o') : HOk P w (upd H x o') h' := fun b u q => by
  have nown : ∀ c y, H c = some (.own y) → c ≠ x := fun c y r z => by subst z; rw [r] at mu; exact mu
  have ntup : ∀ c xs, H c = some (.tup xs) → c ≠ x := fun c xs r z => by subst z; rw [r] at mu; exact mu
  by_cases hb : b = x
  · subst hb; rw [upd_same] at q; cases q; exact new
  · rw [upd_ne hb] at q
    by_cases hbe : b = e
    · have q' : H b = some (.own x) := by
        rcases he with z | z
        · exact absurd (hbe.trans z) hb
        · rw [hbe]; exact z
      rw [q] at q'; cases q'
      obtain ⟨v, hv⟩ := heo
      exact ⟨v, by rw [hbe]; exact hv⟩
    · refine (ok b u q).stay (fun c v hc r => k c v ?_ r) (fun c r => by rw [upd_ne (nown c b r)]; exact r) fun c xs r => by rw [upd_ne (ntup c xs r)]; exact r
      rcases hc with rfl | hc
      · exact hbe
      · rintro rfl
        rcases he with z | z
        · exact nown c b hc z
        · rw [hc] at z; cases z; exact hb rfl
end

/-! ### kept unless tracked; of the frames at fs (the callers') the slots may change (an exception that passes writes there); of the records at ex (iterators) nothing is said -/
structure Un (fs ex : List Addr) (H H' : Hp) (h h' : Heap) : Prop where
  keep : ∀ b o, h.get? b = some o → H b = none → b ∉ fs → b ∉ ex → h'.get? b = some o
  slot : ∀ b o, h.get? b = some o → H b = none → b ∈ fs → b ∉ ex → ∃ sl, h'.get? b = some { o with slots := sl }
  free : ∀ b o, h.get? b = some o → H b = none → b ∉ ex → H' b = none
  there : ∀ b o, h.get? b = some o → b ∉ ex → ∃ o', h'.get? b = some o'
  tups : ∀ b xs, H b = some (.tup xs) → H' b = some (.tup xs)
  frzs : ∀ b o u, H b = some (.frz o u) → H' b = some (.frz o u)
  tbls : ∀ b ps, H b = some (.tbl ps) → ∃ more, H' b = some (.tbl (ps ++ more))
section
variable {fs fs' ex ex' : List Addr} {H H1 H2 : Hp} {h h1 h2 h' : Heap} {a x e : Addr} {o : HO}
theorem Un.any (u : Un fs ex H H1 h h1) {b : Addr} {ob : Obj} (q : h.get? b = some ob) (n : H b = none) (hx : b ∉ ex) : ∃ sl, h1.get? b = some { ob with slots := sl } := by
  by_cases hb : b ∈ fs
  · exact u.slot b ob q n hb hx
  · exact ⟨ob.slots, u.keep b ob q n hb hx⟩
theorem Un.trans (a : Un fs ex H H1 h h1) (b : Un fs ex H1 H2 h1 h2) : Un fs ex H H2 h h2 where
  keep := fun c ob q n hc hx => b.keep c ob (a.keep c ob q n hc hx) (a.free c ob q n hx) hc hx
  slot := fun c ob q n hc hx => by
    obtain ⟨sl, e1⟩ := a.slot c ob q n hc hx
    obtain ⟨sl', e2⟩ := b.slot c _ e1 (a.free c ob q n hx) hc hx
    exact ⟨sl', e2⟩
  free := fun c ob q n hx => by
    obtain ⟨o', e1⟩ := a.there c ob q hx
    exact b.free c o' e1 (a.free c ob q n hx) hx
  there := fun c ob q hx => by
    obtain ⟨o', e1⟩ := a.there c ob q hx
    exact b.there c o' e1 hx
  tups := fun c xs q => b.tups c xs (a.tups c xs q)
  frzs := fun c ob xs q => b.frzs c ob xs (a.frzs c ob xs q)
  tbls := fun c ps q => by
    obtain ⟨m1, e1⟩ := a.tbls c ps q
    obtain ⟨m2, e2⟩ := b.tbls c _ e1
    exact ⟨m1 ++ m2, by rw [e2, Array.append_assoc]⟩
theorem Un.kept (k : ∀ b u, h.get? b = some u → h'.get? b = some u) : Un fs ex H H h h' :=
  ⟨fun b ob q _ _ _ => k b ob q, fun b ob q _ _ _ => ⟨ob.slots, k b ob q⟩, fun _ _ _ n _ => n, fun b ob q _ => ⟨ob, k b ob q⟩, fun _ _ q => q, fun _ _ _ q => q, fun _ ps q => ⟨#[], by rw [q]; simp⟩⟩
theorem Un.refl : Un fs ex H H h h := Un.kept fun _ _ q => q
theorem Un.laid (k : ∀ b u, h.get? b = some u → h'.get? b = some u) (hp : h.objs.size ≤ a) (hn : H a = none) : Un fs ex H (upd H a o) h h' where
  keep := fun b u q _ _ _ => k b u q
  slot := fun b u q _ _ _ => ⟨u.slots, k b u q⟩
  free := fun b u q n _ => by rw [upd_ne (Nat.ne_of_lt (Nat.lt_of_lt_of_le (Heap.lt_size q) hp))]; exact n
  there := fun b u q _ => ⟨u, k b u q⟩
  tups := fun b xs q => by rw [upd_ne (ne_of_none q hn)]; exact q
  frzs := fun b u xs q => by rw [upd_ne (ne_of_none q hn)]; exact q
  tbls := fun b ps q => ⟨#[], by rw [upd_ne (ne_of_none q hn), q]; simp⟩
theorem Un.write (mu : Mut (H x)) (he : e = x ∨ H e = some (.own x)) (k : ∀ b u, b ≠ e → h.get? b = some u → h'.get? b = some u) (heo : ∃ u, h'.get? e = some u) : Un fs ex H (upd H x o) h h' := by
  have hx : ∀ b, H b = none → b ≠ x := fun b n z => by subst z; rw [n] at mu; exact mu
  have hb : ∀ b, H b = none → b ≠ e := fun b n z => by
    subst z
    rcases he with r | r
    · exact hx b n r
    · rw [n] at r; cases r
  have hm : ∀ b u, H b = some u → ¬ Mut (some u) → b ≠ x := fun b u q nm z => by subst z; rw [q] at mu; exact nm mu
  refine ⟨fun b u q n _ _ => k b u (hb b n) q, fun b u q n _ _ => ⟨u.slots, k b u (hb b n) q⟩, fun b u q n _ => by rw [upd_ne (hx b n)]; exact n, fun b u q _ => ?_,
    fun b xs q => by rw [upd_ne (hm b _ q fun z => z)]; exact q, fun b u xs q => by rw [upd_ne (hm b _ q fun z => z)]; exact q, fun b ps q => ⟨#[], by rw [upd_ne (hm b _ q fun z => z), q]; simp⟩⟩
  by_cases hbe : b = e
  · subst hbe; exact heo
  · exact ⟨u, k b u hbe q⟩
end

/-! ### the heap without what is tracked -/
def trk (h : Heap) (H : Hp) : List Addr := (List.range h.objs.size).filter fun a => (H a).isSome
def hidT (h : Heap) (H : Hp) : Heap := PySem.W.hideAll h (trk h H)
theorem hidT_size (h : Heap) (H : Hp) : (hidT h H).objs.size = h.objs.size := PySem.W.hideAll_size _ _
theorem hidT_get {h : Heap} {H : Hp} {b : Addr} {o : Obj} (e : h.get? b = some o) (n : H b = none) : (hidT h H).get? b = some o :=
  PySem.W.hideAll_get _ e fun hm => by
    have q : (H b).isSome = true := (List.mem_filter.mp hm).2
    rw [n] at q; simp at q
theorem of_hidT {h : Heap} {H : Hp} {b : Addr} {o : Obj} (e : (hidT h H).get? b = some o) : h.get? b = some o ∧ H b = none := by
  have e' : h.get? b = some o := PySem.W.of_hideAll (trk h H) e
  refine ⟨e', ?_⟩
  cases q : H b with
  | none => rfl
  | some x =>
    have hm : b ∈ trk h H := List.mem_filter.mpr ⟨List.mem_range.mpr (Heap.lt_size e'), by simp [q]⟩
    have z : (hidT h H).get? b = none := PySem.W.hideAll_none (trk h H) hm
    rw [z] at e; cases e

/-! ### OpenK's ledger, filled with every new object but one -/
def allNews (g h : Heap) (L : Addr) : List (Addr × Obj) := (List.range h.objs.size).filterMap fun a => if a = L ∨ (g.get? a).isSome = true then none else (h.get? a).map fun o => (a, o)
def rest (g h : Heap) (L d : Addr) : List (Addr × Obj) := (allNews g h L).filter fun p => decide (p.1 ≠ d)
end L2

namespace L2
open PySem PySem.Spec PyProof.Rows

/-- the module's facts, over the base: the heap at the law's entry without what is tracked there -/
structure Mod (K : PySem.W.Frag) (mg : Str → Option Value) (base : Heap) : Prop where
  kin : K.In base
  glob : base.Ns mainGlobals mg
  blt : ∃ mb, base.Ns builtinsNs mb ∧ ∀ x : Str, x ≠ "__name__" → mb x = bootBuiltins x
  nolimit : base.NoLimit

/-- the context: a def's body (or a comprehension's block) running. base: fixed through the whole law; s₀, H₀: the entry; outer: the frames whose slots others may change (a def's callers); stack: all frames that run;
   ex: iterators that were made ahead of the entry and are walked here (a comprehension's); fn: the names whose cells were made at the entry (a def: all; a comprehension's block: its own); calm: not within an except suite; pn: pins that every state bears; xe: what is wanted of an exception that leaves the code -/
structure Cx where
  prog : Program
  w : World
  K : PySem.W.Frag
  mg : Str → Option Value
  base : Heap
  A : Around
  N : List Str
  s₀ : Shared
  H₀ : Hp
  env : Env
  outer : List Env
  stack : List Env
  ex : List Addr
  fn : Str → Bool
  calm : Bool
  pn : List (Addr × Obj)
  xe : Value → Shared → Prop
/-- the callers' frames -/
def frs (l : List Env) : List Addr := l.filterMap (·.frame)
abbrev Cx.fs (X : Cx) : List Addr := frs X.outer

def Vis (sc : Scope) (x : Str) : Prop := sc.names.lookup x = some .local ∨ sc.names.lookup x = some .cell ∨ sc.names.lookup x = some .free
def Loc (sc : Scope) (x : Str) : Prop := sc.names.lookup x = some .local ∨ sc.names.lookup x = some .cell
def Look (env : Env) (h : Heap) (m : Str → Option Value) (x : Str) (u : Value) : Prop :=
  (env.kindOf x = some .local ∧ m x = some u) ∨ ((env.kindOf x = some .cell ∨ env.kindOf x = some .free) ∧ ∃ c, env.cells.lookup x = some c ∧ h.IsCell c (some u))

structure Cx.Ok (X : Cx) : Prop where
  mod : Mod X.K X.mg X.base
  kind : X.env.scope.kind = .function
  glob : X.env.globals = mainGlobals
  blt : X.env.builtins = builtinsNs
  above : X.s₀.heap.objs.size ≤ X.env.locals
  inj : ∀ x y c, X.env.cells.lookup x = some c → X.env.cells.lookup y = some c → x = y
  has : ∀ x, (X.env.kindOf x = some .cell ∨ X.env.kindOf x = some .free) → ∃ c, X.env.cells.lookup x = some c
  cab : ∀ x c, X.fn x = true → X.env.cells.lookup x = some c → X.s₀.heap.objs.size ≤ c
  hd : X.calm = true → X.A.handled = none
  frames : X.A.frames = some X.stack
  stk : X.stack = X.outer ∨ (X.stack = X.env :: X.outer ∧ X.env.frame = some X.env.locals)
  exf : ∀ b ∈ X.ex, b ≠ X.env.locals ∧ ∀ x c, X.env.cells.lookup x = some c → c ≠ b
  bs : ∀ b o, X.base.get? b = some o → X.s₀.heap.get? b = some o ∧ X.H₀ b = none
  bsz : X.base.objs.size ≤ X.s₀.heap.objs.size
  noex : ∀ b o, X.base.get? b = some o → b ∉ X.ex
  exfs : ∀ b ∈ X.ex, b ∉ X.fs
  funs : X.s₀.heap.FunFrames X.base X.outer
  frf : ∀ b ∈ X.fs, X.H₀ b = none

structure Inv (X : Cx) (pins : List (Addr × Obj)) (σ : List (Option V)) (H : Hp) (s : Shared) : Prop where
  ok : X.Ok
  os : s.os = X.s₀.os
  bare : AllBare s.gens
  base : Un X.fs X.ex X.H₀ H X.s₀.heap s.heap
  loc : ∃ m, s.heap.Ns X.env.locals m ∧ ∀ (i : Nat) (x : Str) (v : V), X.N[i]? = some x → σ[i]? = some (some v) → Vis X.env.scope x → ∃ u, RelV v u ∧ Look X.env s.heap m x u
  cell : ∀ x c, X.env.cells.lookup x = some c → ∃ v, s.heap.IsCell c v
  free : H X.env.locals = none
  freeC : ∀ x c, X.env.cells.lookup x = some c → H c = none
  pin : ∀ p ∈ X.pn ++ pins, s.heap.get? p.1 = some p.2 ∧ H p.1 = none ∧ p.1 ≠ X.env.locals ∧ p.1 ∉ X.fs ∧ ∀ v, p.2.data ≠ .cell v
  hok : HOk X.prog X.w H s.heap
  len : σ.length = X.N.length

section
variable {X : Cx} {pins : List (Addr × Obj)} {σ : List (Option V)} {H H' : Hp} {s : Shared} {h' : Heap}

theorem Cx.Ok.nofr (ok : X.Ok) {b : Addr} {o : Obj} (e : X.base.get? b = some o) : b ∉ X.fs := fun hb => by
  have := (ok.funs.mem hb).1
  rw [e] at this; cases this
theorem Inv.bs (I : Inv X pins σ H s) : ∀ b o, X.base.get? b = some o → s.heap.get? b = some o ∧ H b = none := fun b o e =>
  ⟨I.base.keep b o (I.ok.bs b o e).1 (I.ok.bs b o e).2 (I.ok.nofr e) (I.ok.noex b o e), I.base.free b o (I.ok.bs b o e).1 (I.ok.bs b o e).2 (I.ok.noex b o e)⟩
theorem Inv.bk (I : Inv X pins σ H s) : ∀ b o, X.base.get? b = some o → s.heap.get? b = some o := fun b o e => (I.bs b o e).1
theorem Inv.mod (I : Inv X pins σ H s) : Mod X.K X.mg X.base := I.ok.mod
theorem Inv.kIn (I : Inv X pins σ H s) : X.K.In s.heap := I.ok.mod.kin.keeps I.bk
theorem Inv.lt (I : Inv X pins σ H s) : X.env.locals < s.heap.objs.size := let ⟨_, hn, _⟩ := I.loc; hn.lt
theorem Inv.sz (I : Inv X pins σ H s) : X.s₀.heap.objs.size ≤ s.heap.objs.size := Nat.le_trans I.ok.above (Nat.le_of_lt I.lt)
theorem Inv.nofs (I : Inv X pins σ H s) {a : Addr} (h : s.heap.objs.size ≤ a) : a ∉ X.fs := fun hb => by
  obtain ⟨_, o, ho, _⟩ := I.ok.funs.mem hb
  exact absurd (Nat.lt_of_lt_of_le (Heap.lt_size ho) (Nat.le_trans I.sz h)) (Nat.lt_irrefl _)
theorem Inv.cne (I : Inv X pins σ H s) : ∀ x c, X.env.cells.lookup x = some c → c ≠ X.env.locals := fun x c e z => by
  obtain ⟨v, o, ho, hd⟩ := I.cell x c e
  obtain ⟨m, ⟨o', es, ep, ho', hd', _⟩, _⟩ := I.loc
  rw [z, ho'] at ho; cases ho; rw [hd'] at hd; cases hd
theorem Inv.funs (I : Inv X pins σ H s) : s.heap.FunFrames X.base X.outer := by
  have all : ∀ (l : List Env), (∀ b ∈ frs l, b ∈ X.fs) → X.s₀.heap.FunFrames X.base l → s.heap.FunFrames X.base l := by
    intro l
    induction l with
    | nil => intro _ _; trivial
    | cons env r ih =>
      intro hs hl
      obtain ⟨hk, ⟨L, o, hf, hn, ho, hd⟩, hr⟩ := hl
      have hL : L ∈ X.fs := hs L (by unfold frs; rw [List.filterMap_cons, hf]; exact List.mem_cons_self)
      obtain ⟨sl, e⟩ := I.base.slot L o ho (I.ok.frf L hL) hL fun z => I.ok.exfs L z hL
      exact ⟨hk, ⟨L, _, hf, hn, e, hd⟩, ih (fun b hb => hs b (by unfold frs; rw [List.filterMap_cons, hf]; exact List.mem_cons_of_mem _ hb)) hr⟩
  exact all X.outer (fun _ hb => hb) I.ok.funs

/-- the frames that run, for a call -/
theorem Inv.stack (I : Inv X pins σ H s) : s.heap.FunFrames X.base X.stack := by
  rcases I.ok.stk with e | ⟨e, hf⟩
  · rw [e]; exact I.funs
  · rw [e]
    obtain ⟨m, hn, _⟩ := I.loc
    refine .cons (by rw [I.ok.kind]; decide) hf hn ?_ I.funs
    exact Heap.get?_none_of_le (Nat.le_trans I.ok.bsz I.ok.above)
theorem Inv.stkSub (I : Inv X pins σ H s) : ∀ b ∈ frs X.stack, b ∈ X.env.locals :: X.fs := fun b hb => by
  rcases I.ok.stk with e | ⟨e, hf⟩
  · rw [e] at hb; exact List.mem_cons_of_mem _ hb
  · rw [e] at hb
    unfold frs at hb
    rw [List.filterMap_cons, hf] at hb
    exact hb
theorem Inv.stkFree (I : Inv X pins σ H s) : ∀ b ∈ frs X.stack, H b = none := fun b hb => by
  rcases List.mem_cons.mp (I.stkSub b hb) with e | hb
  · rw [e]; exact I.free
  · obtain ⟨_, o, ho, _⟩ := I.ok.funs.mem hb
    exact I.base.free b o ho (I.ok.frf b hb) fun z => I.ok.exfs b z hb

/-- THE STEP: the untracked objects but the frame and the records at ch are kept (the callers' frames up to slots), the frame's map is kept, the new abstract heap is held -/
theorem Inv.step {g' : Array GenState} {t' : Nat} {d' : Drawn} {ch : List Addr} (I : Inv X pins σ H s)
    (hch : ∀ b ∈ ch, (b ∈ X.ex ∨ X.s₀.heap.objs.size ≤ b) ∧ b ≠ X.env.locals ∧ (∀ x c, X.env.cells.lookup x = some c → c ≠ b) ∧ ∀ p ∈ X.pn ++ pins, p.1 ≠ b)
    (keep : ∀ b o, b ≠ X.env.locals → b ∉ X.fs → b ∉ ch → s.heap.get? b = some o → H b = none → h'.get? b = some o)
    (slot : ∀ b o, b ≠ X.env.locals → b ∈ X.fs → b ∉ ch → s.heap.get? b = some o → H b = none → ∃ sl, h'.get? b = some { o with slots := sl }) (free : ∀ b o, b ∉ ch → s.heap.get? b = some o → H b = none → H' b = none)
    (there : ∀ b o, b ∉ ch → s.heap.get? b = some o → ∃ o', h'.get? b = some o')
    (tups : ∀ b xs, H b = some (.tup xs) → H' b = some (.tup xs)) (frzs : ∀ b o u, H b = some (.frz o u) → H' b = some (.frz o u)) (tbls : ∀ b ps, H b = some (.tbl ps) → ∃ more, H' b = some (.tbl (ps ++ more)))
    (ns : ∀ m, s.heap.Ns X.env.locals m → h'.Ns X.env.locals m) (hok : HOk X.prog X.w H' h') (hg : AllBare g') :
    Inv X pins σ H' { s with heap := h', gens := g', drawn := d', toks := t' } := by
  have neL : ∀ b o, X.s₀.heap.get? b = some o → b ≠ X.env.locals := fun b o e => Nat.ne_of_lt (Nat.lt_of_lt_of_le (Heap.lt_size e) I.ok.above)
  have neC : ∀ b o, X.s₀.heap.get? b = some o → b ∉ X.ex → b ∉ ch := fun b o e hx hb => by
    rcases (hch b hb).1 with z | z
    · exact hx z
    · exact absurd (Nat.lt_of_lt_of_le (Heap.lt_size e) z) (Nat.lt_irrefl _)
  have cellK : ∀ x c, X.env.cells.lookup x = some c → ∀ v, s.heap.IsCell c v → h'.IsCell c v := fun x c e v ⟨o, ho, hd⟩ => by
    have nch : c ∉ ch := fun z => (hch c z).2.2.1 x c e rfl
    by_cases hc : c ∈ X.fs
    · obtain ⟨sl, q⟩ := slot c o (I.cne x c e) hc nch ho (I.freeC x c e)
      exact ⟨_, q, hd⟩
    · exact ⟨o, keep c o (I.cne x c e) hc nch ho (I.freeC x c e), hd⟩
  refine ⟨I.ok, I.os, hg, ⟨fun b o e n hb hx => ?_, fun b o e n hb hx => ?_, fun b o e n hx => ?_, fun b o e hx => ?_, fun b xs e => tups b xs (I.base.tups b xs e), fun b o xs e => frzs b o xs (I.base.frzs b o xs e), fun b ps e => ?_⟩, ?_, fun x c e => ?_, ?_, fun x c e => ?_, fun p hp => ?_, hok, I.len⟩
  · exact keep b o (neL b o e) hb (neC b o e hx) (I.base.keep b o e n hb hx) (I.base.free b o e n hx)
  · obtain ⟨sl, e1⟩ := I.base.slot b o e n hb hx
    obtain ⟨sl', e2⟩ := slot b _ (neL b o e) hb (neC b o e hx) e1 (I.base.free b o e n hx)
    exact ⟨sl', e2⟩
  · obtain ⟨o', e1⟩ := I.base.there b o e hx
    exact free b o' (neC b o e hx) e1 (I.base.free b o e n hx)
  · obtain ⟨o', e1⟩ := I.base.there b o e hx
    exact there b o' (neC b o e hx) e1
  · obtain ⟨m1, e1⟩ := I.base.tbls b ps e
    obtain ⟨m2, e2⟩ := tbls b _ e1
    exact ⟨m1 ++ m2, by rw [e2, Array.append_assoc]⟩
  · obtain ⟨m, hn, hl⟩ := I.loc
    refine ⟨m, ns m hn, fun i x v e1 e2 e3 => ?_⟩
    obtain ⟨u, r, l⟩ := hl i x v e1 e2 e3
    refine ⟨u, r, ?_⟩
    rcases l with l | ⟨k, c, e, z⟩
    · exact .inl l
    · exact .inr ⟨k, c, e, cellK x c e _ z⟩
  · obtain ⟨v, z⟩ := I.cell x c e
    exact ⟨v, cellK x c e v z⟩
  · obtain ⟨m, ⟨o, _, _, ho, _⟩, _⟩ := I.loc
    exact free _ o (fun z => (hch _ z).2.1 rfl) ho I.free
  · obtain ⟨v, o, ho, hd⟩ := I.cell x c e
    exact free c o (fun z => (hch c z).2.2.1 x c e rfl) ho (I.freeC x c e)
  · obtain ⟨e, n, ne, nf, d⟩ := I.pin p hp
    have nch : p.1 ∉ ch := fun z => (hch p.1 z).2.2.2 p hp rfl
    exact ⟨keep p.1 p.2 ne nf nch e n, free p.1 p.2 nch e n, ne, nf, d⟩
/-- .. where the frame's own object is kept too -/
theorem Inv.un {t' : Nat} (I : Inv X pins σ H s) (u : Un X.fs [] H H' s.heap h') (hok : HOk X.prog X.w H' h') : Inv X pins σ H' { s with heap := h', toks := t' } := by
  obtain ⟨m, ⟨o, es, ep, ho, r⟩, _⟩ := id I.loc
  obtain ⟨sl, hL⟩ := u.any ho I.free (by simp)
  exact I.step (g' := s.gens) (d' := s.drawn) (ch := []) (fun _ z => nomatch z) (fun b o _ hb _ e n => u.keep b o e n hb (by simp)) (fun b o _ hb _ e n => u.slot b o e n hb (by simp)) (fun b o _ e n => u.free b o e n (by simp)) (fun b o _ e => u.there b o e (by simp)) u.tups u.frzs u.tbls (fun m' hm => by
    obtain ⟨o', es', ep', ho', r'⟩ := hm
    rw [ho] at ho'; cases ho'
    exact ⟨_, es', ep', hL, r'⟩) hok I.bare
/-- behind a call (or a comprehension's block): the slots of this frame may have changed too, the records at ch may have turned -/
theorem Inv.call {g' : Array GenState} {t' : Nat} {d' : Drawn} {ch : List Addr} (I : Inv X pins σ H s) (u : Un (frs X.stack) ch H H' s.heap h') (hok : HOk X.prog X.w H' h') (hg : AllBare g')
    (hch : ∀ b ∈ ch, (b ∈ X.ex ∨ X.s₀.heap.objs.size ≤ b) ∧ b ≠ X.env.locals ∧ (∀ x c, X.env.cells.lookup x = some c → c ≠ b) ∧ ∀ p ∈ X.pn ++ pins, p.1 ≠ b) :
    Inv X pins σ H' { s with heap := h', gens := g', drawn := d', toks := t' } := by
  obtain ⟨m, ⟨o, es, ep, ho, r⟩, _⟩ := id I.loc
  obtain ⟨sl, hL⟩ := u.any ho I.free fun z => (hch _ z).2.1 rfl
  exact I.step (ch := ch) hch (fun b o hL hb hc e n => u.keep b o e n (fun z => (List.mem_cons.mp (I.stkSub b z)).elim hL hb) hc) (fun b o _ _ hc e n => u.any e n hc) (fun b o hc e n => u.free b o e n hc) (fun b o hc e => u.there b o e hc) u.tups u.frzs u.tbls (fun m' hm => by
    obtain ⟨o', es', ep', ho', r'⟩ := hm
    rw [ho] at ho'; cases ho'
    exact ⟨_, es', ep', hL, r'⟩) hok hg
/-- an untracked record of ours (an iterator) has turned -/
theorem Inv.turned {t' : Nat} {it : Addr} (I : Inv X pins σ H s) (k : ∀ b o, b ≠ it → s.heap.get? b = some o → h'.get? b = some o) (hn : H it = none) (hL : it ≠ X.env.locals)
    (h1 : it ∈ X.ex ∨ X.s₀.heap.objs.size ≤ it) (h2 : ∀ x c, X.env.cells.lookup x = some c → c ≠ it) (h3 : ∀ p ∈ X.pn ++ pins, p.1 ≠ it) : Inv X pins σ H { s with heap := h', toks := t' } := by
  have nit : ∀ b u, H b = some u → b ≠ it := fun b u e z => by rw [z, hn] at e; cases e
  refine I.step (g' := s.gens) (d' := s.drawn) (ch := [it]) (fun b hb => ?_) (fun b o _ _ hc e _ => k b o (fun z => hc (by simp [z])) e) (fun b o _ _ hc e _ => ⟨o.slots, k b o (fun z => hc (by simp [z])) e⟩) (fun _ _ _ _ n => n)
    (fun b o hc e => ⟨o, k b o (fun z => hc (by simp [z])) e⟩) (fun _ _ e => e) (fun _ _ _ e => e) (fun b ps e => ⟨#[], by rw [e]; simp⟩) (fun m hm => ?_) (fun b u e => ?_) I.bare
  · have e : b = it := by simpa using hb
    subst e
    exact ⟨h1, hL, h2, h3⟩
  · obtain ⟨o, es, ep, ho, r⟩ := hm
    exact ⟨o, es, ep, k _ o (Ne.symm hL) ho, r⟩
  · refine (I.hok b u e).stay (fun c v hc q => k c v ?_ q) (fun _ q => q) fun _ _ q => q
    rcases hc with z | z
    · rw [z]; exact nit b u e
    · exact nit c _ z
theorem Inv.tok (I : Inv X pins σ H s) (t : Nat) : Inv X pins σ H { s with toks := t } := I.un (h' := s.heap) (t' := t) Un.refl I.hok
/-- all objects kept -/
theorem Inv.kept {t' : Nat} (I : Inv X pins σ H s) (k : ∀ b u, s.heap.get? b = some u → h'.get? b = some u) : Inv X pins σ H { s with heap := h', toks := t' } := I.un (Un.kept k) (I.hok.kept k)
/-- a new object laid and tracked -/
theorem Inv.laid {a : Addr} {o : HO} {t' : Nat} (I : Inv X pins σ H s) (k : ∀ b u, s.heap.get? b = some u → h'.get? b = some u) (hp : s.heap.objs.size ≤ a) (new : ObjOk X.prog X.w (upd H a o) h' a o) :
    Inv X pins σ (upd H a o) { s with heap := h', toks := t' } := I.un (Un.laid k hp (I.hok.fresh hp)) (I.hok.laid k hp new)
/-- an object written -/
theorem Inv.write {x e : Addr} {o : HO} {t' : Nat} (I : Inv X pins σ H s) (mu : Mut (H x)) (he : e = x ∨ H e = some (.own x)) (k : ∀ b u, b ≠ e → s.heap.get? b = some u → h'.get? b = some u) (heo : ∃ u, h'.get? e = some u)
    (new : ObjOk X.prog X.w (upd H x o) h' x o) : Inv X pins σ (upd H x o) { s with heap := h', toks := t' } := I.un (Un.write mu he k heo) (I.hok.write mu he k heo new)
theorem Inv.pins_of {pins' : List (Addr × Obj)} (I : Inv X pins σ H s) (h : ∀ p ∈ pins', s.heap.get? p.1 = some p.2 ∧ H p.1 = none ∧ p.1 ≠ X.env.locals ∧ p.1 ∉ X.fs ∧ ∀ v, p.2.data ≠ .cell v) : Inv X pins' σ H s :=
  ⟨I.ok, I.os, I.bare, I.base, I.loc, I.cell, I.free, I.freeC, fun p hp => (List.mem_append.mp hp).elim (fun z => I.pin p (List.mem_append_left _ z)) (h p), I.hok, I.len⟩

theorem nodup_ix {N : List Str} (hN : N.Nodup) {i j : Nat} {x : Str} (a : N[i]? = some x) (b : N[j]? = some x) : i = j := by
  obtain ⟨h1, e1⟩ := List.getElem?_eq_some_iff.mp a
  obtain ⟨h2, e2⟩ := List.getElem?_eq_some_iff.mp b
  exact (List.getElem_inj hN).mp (e1.trans e2.symm)

/-- a name is stored; what changed -/
theorem store_ok2 {M : Model} {A : Around} {E : Value → Shared → Prop} {i : Nat} {x : Str} {v : V} {u : Value} {Q : Unit → Shared → Prop} (I : Inv X pins σ H s) (hN : X.N.Nodup) (hi : X.N[i]? = some x) (hx : Loc X.env.scope x) (r : RelV v u)
    (h : ∀ s', Inv X pins (σ.set i (some v)) H s' → (∃ a, Heap.SameBut a s.heap s'.heap ∧ (a = X.env.locals ∨ X.env.cells.lookup x = some a)) → Q () s') (hf : X.fn x = true ∨ X.env.scope.names.lookup x = some .local := by first | exact .inl rfl | exact .inr rfl | assumption) : wpAny M A (storeName X.env x u) Q E s := by
  obtain ⟨m, hn, hl⟩ := id I.loc
  have hcls : (X.env.scope.kind == .class || (X.env.scope.kind == .module && X.env.locals != X.env.globals)) = false := by rw [I.ok.kind]; rfl
  have hiσ : i < σ.length := by rw [I.len]; exact (List.getElem?_eq_some_iff.mp hi).1
  have cne := I.cne
  have tracked : ∀ {a : Addr} {h' : Heap}, (∃ o, s.heap.get? a = some o ∧ H a = none) → Heap.SameBut a s.heap h' → HOk X.prog X.w H h' := fun {a h'} ha hs b ob e => by
    obtain ⟨_, _, hfree⟩ := ha
    refine (I.hok b ob e).stay (fun c w' hc q => (hs.2 c ?_).trans q) (fun _ q => q) fun _ _ q => q
    rintro rfl
    rcases hc with rfl | hc
    · rw [hfree] at e; cases e
    · rw [hfree] at hc; cases hc
  rcases hx with hk | hk
  · refine wpAny_storeName_local hk hn (fun h' hn' hs => ?_) hcls
    obtain ⟨oL, _, _, hoL, _⟩ := id hn
    refine h _ ⟨I.ok, I.os, I.bare, ⟨fun b o e n hb hx => ?_, fun b o e n hb hx => ?_, I.base.free, fun b o e hx => ?_, I.base.tups, I.base.frzs, I.base.tbls⟩, ⟨_, hn', fun j y v' e1 e2 e3 => ?_⟩, fun y c e => ?_, I.free, I.freeC, fun p hp => ?_, tracked ⟨oL, hoL, I.free⟩ hs, by simpa using I.len⟩ ⟨_, hs, .inl rfl⟩
    · exact (hs.2 b (Nat.ne_of_lt (Nat.lt_of_lt_of_le (Heap.lt_size e) I.ok.above))).trans (I.base.keep b o e n hb hx)
    · obtain ⟨sl, e1⟩ := I.base.slot b o e n hb hx
      exact ⟨sl, (hs.2 b (Nat.ne_of_lt (Nat.lt_of_lt_of_le (Heap.lt_size e) I.ok.above))).trans e1⟩
    · obtain ⟨o', e1⟩ := I.base.there b o e hx
      exact ⟨o', (hs.2 b (Nat.ne_of_lt (Nat.lt_of_lt_of_le (Heap.lt_size e) I.ok.above))).trans e1⟩
    · by_cases hj : j = i
      · subst hj
        rw [hi] at e1; cases e1
        rw [List.getElem?_set_self hiσ] at e2
        cases e2
        exact ⟨u, r, .inl ⟨hk, by simp⟩⟩
      · rw [List.getElem?_set_ne (Ne.symm hj)] at e2
        obtain ⟨u', r', q⟩ := hl j y v' e1 e2 e3
        refine ⟨u', r', ?_⟩
        rcases q with ⟨k, e⟩ | ⟨k, c, e, z⟩
        · refine .inl ⟨k, ?_⟩
          have : y ≠ x := fun e => hj (nodup_ix hN e1 (e ▸ hi))
          simp [this, e]
        · exact .inr ⟨k, c, e, z.sameBut hs (cne y c e)⟩
    · obtain ⟨w', z⟩ := I.cell y c e
      exact ⟨w', z.sameBut hs (cne y c e)⟩
    · obtain ⟨e, n, ne, nf, d⟩ := I.pin p hp
      exact ⟨(hs.2 p.1 ne).trans e, n, ne, nf, d⟩
  · have hfn : X.fn x = true := by
      rcases hf with z | z
      · exact z
      · rw [z] at hk; cases hk
    obtain ⟨c, hc⟩ := I.ok.has x (.inl hk)
    obtain ⟨w', z⟩ := I.cell x c hc
    refine wpAny_storeName_cell I.ok.kind hk hc z (fun h' hc' hs => ?_)
    obtain ⟨oc, hoc, hocd⟩ := id z
    refine h { s with heap := h' } ⟨I.ok, I.os, I.bare, ⟨fun b o e n hb hx => ?_, fun b o e n hb hx => ?_, I.base.free, fun b o e hx => ?_, I.base.tups, I.base.frzs, I.base.tbls⟩, ⟨m, hn.sameBut hs (Ne.symm (cne x c hc)), fun j y v' e1 e2 e3 => ?_⟩, fun y c' e => ?_, I.free, I.freeC, fun p hp => ?_, tracked ⟨oc, hoc, I.freeC x c hc⟩ hs, by simpa using I.len⟩ ⟨c, hs, .inr hc⟩
    · exact (hs.2 b (Nat.ne_of_lt (Nat.lt_of_lt_of_le (Heap.lt_size e) (I.ok.cab x c hfn hc)))).trans (I.base.keep b o e n hb hx)
    · obtain ⟨sl, e1⟩ := I.base.slot b o e n hb hx
      exact ⟨sl, (hs.2 b (Nat.ne_of_lt (Nat.lt_of_lt_of_le (Heap.lt_size e) (I.ok.cab x c hfn hc)))).trans e1⟩
    · obtain ⟨o', e1⟩ := I.base.there b o e hx
      exact ⟨o', (hs.2 b (Nat.ne_of_lt (Nat.lt_of_lt_of_le (Heap.lt_size e) (I.ok.cab x c hfn hc)))).trans e1⟩
    · by_cases hj : j = i
      · subst hj
        rw [hi] at e1; cases e1
        rw [List.getElem?_set_self hiσ] at e2
        cases e2
        exact ⟨u, r, .inr ⟨.inl hk, c, hc, hc'⟩⟩
      · rw [List.getElem?_set_ne (Ne.symm hj)] at e2
        obtain ⟨u', r', q⟩ := hl j y v' e1 e2 e3
        refine ⟨u', r', ?_⟩
        rcases q with q | ⟨k, c', e, z'⟩
        · exact .inl q
        · refine .inr ⟨k, c', e, z'.sameBut hs ?_⟩
          rintro rfl
          exact hj (nodup_ix hN e1 (I.ok.inj _ _ _ e hc ▸ hi))
    · by_cases hcc : c' = c
      · subst hcc; exact ⟨_, hc'⟩
      · obtain ⟨w2, z2⟩ := I.cell y c' e
        exact ⟨w2, z2.sameBut hs hcc⟩
    · obtain ⟨e, n, ne, nf, d⟩ := I.pin p hp
      refine ⟨(hs.2 p.1 ?_).trans e, n, ne, nf, d⟩
      intro q
      rw [q, hoc] at e
      have q' : oc = p.2 := Option.some.inj e
      exact d w' (by rw [← q']; exact hocd)
theorem store_ok {M : Model} {A : Around} {E : Value → Shared → Prop} {i : Nat} {x : Str} {v : V} {u : Value} {Q : Unit → Shared → Prop} (I : Inv X pins σ H s) (hN : X.N.Nodup) (hi : X.N[i]? = some x) (hx : Loc X.env.scope x) (r : RelV v u)
    (h : ∀ s', Inv X pins (σ.set i (some v)) H s' → Q () s') (hf : X.fn x = true ∨ X.env.scope.names.lookup x = some .local := by first | exact .inl rfl | exact .inr rfl | assumption) : wpAny M A (storeName X.env x u) Q E s :=
  store_ok2 I hN hi hx r (fun s' I' _ => h s' I') hf
/-- behind a call or a block, the state as it is -/
theorem Inv.call' {s' : Shared} {ch : List Addr} (I : Inv X pins σ H s) (ho : s'.os = s.os) (u : Un (frs X.stack) ch H H' s.heap s'.heap) (hok : HOk X.prog X.w H' s'.heap) (hg : AllBare s'.gens)
    (hch : ∀ b ∈ ch, (b ∈ X.ex ∨ X.s₀.heap.objs.size ≤ b) ∧ b ≠ X.env.locals ∧ (∀ x c, X.env.cells.lookup x = some c → c ≠ b) ∧ ∀ p ∈ X.pn ++ pins, p.1 ≠ b) : Inv X pins σ H' s' := by
  obtain ⟨h', g', d', t', o'⟩ := s'
  have e : o' = s.os := ho
  subst e
  exact I.call (g' := g') (t' := t') (d' := d') u hok hg hch
end

/-! ### the judgements -/
/-- an exception: its class, its own dict's address (where it has one), the abstract heap behind it -/
abbrev XK := Value → Option Addr → Hp → Prop
abbrev St := List (Option V)
abbrev VK := V → Hp → Prop
/-- an expression's reading; a test's; an argument list's -/
abbrev TE := St → Hp → VK → Prop
abbrev TT := St → Hp → (Bool → Hp → Prop) → Prop
abbrev TA := St → Hp → (List V → Hp → Prop) → Prop
/-- what is wanted behind a statement -/
structure Ends where
  nx : St → Hp → Prop
  rt : VK
  bk : St → Hp → Prop := fun _ _ => False
  ct : St → Hp → Prop := fun _ _ => False
abbrev TS := Ends → St → Hp → Prop

def EP (X : Cx) (pins : List (Addr × Obj)) (σ : St) (Q : VK) (u : Value) (s' : Shared) : Prop := ∃ v H', Inv X pins σ H' s' ∧ RelV v u ∧ Q v H'
def TP (X : Cx) (pins : List (Addr × Obj)) (σ : St) (Q : Bool → Hp → Prop) (b : Bool) (s' : Shared) : Prop := ∃ H', Inv X pins σ H' s' ∧ Q b H'
def AP (X : Cx) (pins : List (Addr × Obj)) (σ : St) (Q : List V → Hp → Prop) (us : List Value) (s' : Shared) : Prop := ∃ vs H', Inv X pins σ H' s' ∧ Vals vs us ∧ Q vs H'
def SP (X : Cx) (pins : List (Addr × Obj)) (D : Ends) (f : Flow) (s' : Shared) : Prop :=
  match f with
  | .next => ∃ σ' H', Inv X pins σ' H' s' ∧ D.nx σ' H'
  | .brk => ∃ σ' H', Inv X pins σ' H' s' ∧ D.bk σ' H'
  | .cont => ∃ σ' H', Inv X pins σ' H' s' ∧ D.ct σ' H'
  | .ret u => ∃ v σ' H', Inv X pins σ' H' s' ∧ RelV v u ∧ D.rt v H'

def PE (X : Cx) (e : Expr) (t : TE) : Prop :=
  ∀ (pins : List (Addr × Obj)) (s : Shared) (σ : St) (H : Hp) (Q : VK), Inv X pins σ H s → t σ H Q → wpAny (model X.prog X.w) X.A (eval e X.env) (EP X pins σ Q) X.xe s
def PT (X : Cx) (e : Expr) (t : TT) : Prop :=
  ∀ (pins : List (Addr × Obj)) (s : Shared) (σ : St) (H : Hp) (Q : Bool → Hp → Prop), Inv X pins σ H s → t σ H Q → wpAny (model X.prog X.w) X.A (isTrue e X.env (eval e X.env)) (TP X pins σ Q) X.xe s
/-- a test whatever its 'whole' is (and, or) -/
def PW (X : Cx) (e : Expr) (t : TT) : Prop :=
  ∀ (whole : Sem Value) (pins : List (Addr × Obj)) (s : Shared) (σ : St) (H : Hp) (Q : Bool → Hp → Prop), Inv X pins σ H s → t σ H Q → wpAny (model X.prog X.w) X.A (isTrue e X.env whole) (TP X pins σ Q) X.xe s
theorem PW.pt {X : Cx} {e : Expr} {t : TT} (h : PW X e t) : PT X e t := h _
/-- an argument list (no star), from the left -/
def PA (X : Cx) (es : List Expr) (t : TA) : Prop :=
  ∀ (pos : Pos) (pins : List (Addr × Obj)) (s : Shared) (σ : St) (H : Hp) (Q : List V → Hp → Prop), Inv X pins σ H s → t σ H Q → wpAny (model X.prog X.w) X.A (spliced (backTo pos (starEach es X.env))) (AP X pins σ Q) X.xe s
def PS (X : Cx) (st : Stmt) (t : TS) : Prop :=
  ∀ (pins : List (Addr × Obj)) (s : Shared) (σ : St) (H : Hp) (D : Ends), Inv X pins σ H s → t D σ H → wpAny (model X.prog X.w) X.A (exec st X.env) (SP X pins D) X.xe s
def PSs (X : Cx) (st : List Stmt) (t : TS) : Prop :=
  ∀ (pins : List (Addr × Obj)) (s : Shared) (σ : St) (H : Hp) (D : Ends), Inv X pins σ H s → t D σ H → wpAny (model X.prog X.w) X.A (execs st X.env) (SP X pins D) X.xe s
/-- weaken the end -/
theorem thn {α : Type} {t : Sem α} {Q Q' : α → Shared → Prop} {M : Model} {A : Around} {E : Value → Shared → Prop} {s : Shared} (h : wpAny M A t Q E s) (hQ : ∀ a s, Q a s → Q' a s) : wpAny M A t Q' E s := wpAny_mono h hQ fun _ _ x => x
end L2

namespace L2
open PySem PySem.Spec PyProof.Rows
section
variable {X : Cx}

/-- two expressions in a row -/
theorem bin {a b : Expr} {ta tb : TE} (ha : PE X a ta) (hb : PE X b tb) {pins : List (Addr × Obj)} {s : Shared} {σ : St} {H : Hp} {R : V → V → Hp → Prop} (I : Inv X pins σ H s) (h : ta σ H fun x H1 => tb σ H1 fun y H2 => R x y H2)
    {α : Type} {Q : α → Shared → Prop} {f : Value → Value → Sem α}
    (hf : ∀ v u s2 x y H2, Inv X pins σ H2 s2 → RelV x v → RelV y u → R x y H2 → wpAny (model X.prog X.w) X.A (f v u) Q X.xe s2) :
    wpAny (model X.prog X.w) X.A (eval a X.env) (fun v s₁ => wpAny (model X.prog X.w) X.A (eval b X.env) (fun u s₂ => wpAny (model X.prog X.w) X.A (f v u) Q X.xe s₂) X.xe s₁) X.xe s := by
  refine thn (ha pins s σ H _ I h) fun v s1 ⟨x, H1, I1, r1, q1⟩ => ?_
  refine thn (hb pins s1 σ H1 _ I1 q1) fun u s2 ⟨y, H2, I2, r2, q2⟩ => ?_
  exact hf v u s2 x y H2 I2 r1 r2 q2

/-! ### names and constants -/
def tVar (i : Nat) : TE := fun σ H Q => ∃ v, σ[i]? = some (some v) ∧ Q v H
def tC (v : V) : TE := fun _ H Q => Q v H
theorem pe_var {i : Nat} {x : Str} {pos : Pos} (hN : X.N[i]? = some x) (hv : Vis X.env.scope x) (hd : (x == ("__debug__" : Str)) = false := by decide) (hcd : (x == ("__classdict__" : Str)) = false := by decide) : PE X (.Name x pos) (tVar i) := by
  intro pins s σ H Q I h
  obtain ⟨v, e, h⟩ := h
  obtain ⟨m, hn, hl⟩ := I.loc
  obtain ⟨u, r, l⟩ := hl i x v hN e hv
  have fin : EP X pins σ Q u s := ⟨v, H, I, r, h⟩
  rcases l with ⟨hk, hm⟩ | ⟨hk, c, hc, hcell⟩
  · exact wpAny_Name (wpAny_loadName_local I.ok.kind hk hn hm fin) hd
  · rcases hk with hk | hk
    · exact wpAny_Name (wpAny_loadName_cell I.ok.kind hk hc hcell fin) hd
    · exact wpAny_Name (wpAny_loadName_free I.ok.kind hk hc hcell fin hcd) hd
theorem pe_int {i j pos} : PE X (.Constant (.int i) j pos) (tC (.int i)) := fun _ _ _ H _ I h => wpAny_Constant_int ⟨.int i, H, I.tok _, ⟨_, rfl⟩, h⟩
theorem pe_bl {b j pos} : PE X (.Constant (.bool b) j pos) (tC (.bl b)) := fun _ _ _ H _ I h => Constant_bool ⟨.bl b, H, I, rfl, h⟩
theorem pe_str {x j pos} : PE X (.Constant (.str x) j pos) (tC (.str x)) := fun _ _ _ H _ I h => Calls.Constant_str ⟨.str x, H, I.tok _, ⟨_, rfl⟩, h⟩

/-- a global name of the def -/
def Gl (X : Cx) (x : Str) : Prop := X.env.kindOf x = some .globalImplicit
theorem ld_glob {E : Value → Shared → Prop} {pins : List (Addr × Obj)} {s : Shared} {σ : St} {H : Hp} {x : Str} {u : Value} {pos : Pos} {Q : Value → Shared → Prop} (I : Inv X pins σ H s) (hg : Gl X x) (hm : X.mg x = some u) (h : Q u s)
    (hd : (x == ("__debug__" : Str)) = false := by decide) : wpAny (model X.prog X.w) X.A (eval (.Name x pos) X.env) Q E s :=
  Calls.Name_function_global I.ok.kind hg (Calls.loadGlobal_global (by rw [I.ok.glob]; exact I.mod.glob.keeps I.bk) hm h) hd
theorem ld_blt {E : Value → Shared → Prop} {pins : List (Addr × Obj)} {s : Shared} {σ : St} {H : Hp} {x : Str} {u : Value} {pos : Pos} {Q : Value → Shared → Prop} (I : Inv X pins σ H s) (hg : Gl X x) (hm : X.mg x = none) (hv : bootBuiltins x = some u) (h : Q u s)
    (hn : x ≠ "__name__" := by decide) (hd : (x == ("__debug__" : Str)) = false := by decide) : wpAny (model X.prog X.w) X.A (eval (.Name x pos) X.env) Q E s := by
  obtain ⟨mb, h1, h2⟩ := I.mod.blt
  exact Calls.Name_function_global I.ok.kind hg (Calls.loadGlobal_builtin (by rw [I.ok.glob]; exact I.mod.glob.keeps I.bk) hm (by rw [I.ok.blt]; exact h1.keeps I.bk) ((h2 x hn).trans hv) h) hd
/-- a module's constant, a class, a function, as a value -/
theorem pe_glob {x : Str} {v : V} {u : Value} {pos : Pos} (hg : Gl X x) (hm : X.mg x = some u) (r : RelV v u) (hd : (x == ("__debug__" : Str)) = false := by decide) : PE X (.Name x pos) (tC v) :=
  fun _ _ _ H _ I h => ld_glob I hg hm ⟨v, H, I, r, h⟩ hd
theorem pe_bltn {x : Str} {v : V} {u : Value} {pos : Pos} (hg : Gl X x) (hm : X.mg x = none) (hv : bootBuiltins x = some u) (r : RelV v u) (hn : x ≠ "__name__" := by decide) (hd : (x == ("__debug__" : Str)) = false := by decide) : PE X (.Name x pos) (tC v) :=
  fun _ _ _ H _ I h => ld_blt I hg hm hv ⟨v, H, I, r, h⟩ hn hd

/-! ### arithmetic -/
variable {a b : Expr} {ta tb : TE} {pos : Pos}
/-! ### comparisons -/
def PC (X : Cx) (op : CmpOp) (a b : Expr) (t : TE) : Prop :=
  ∀ (pins : List (Addr × Obj)) (s : Shared) (σ : St) (H : Hp) (Q : VK), Inv X pins σ H s → t σ H Q →
    wpAny (model X.prog X.w) X.A (eval a X.env) (fun v s₁ => wpAny (model X.prog X.w) X.A (eval b X.env) (fun u s₂ => wpAny (model X.prog X.w) X.A (compareOp op v u) (EP X pins σ Q) X.xe s₂) X.xe s₁) X.xe s
theorem nobehind (b : Expr) {op : CmpOp} (h : op ≠ .In) (h2 : op ≠ .NotIn) : behindInMarks op b = false := by
  have e1 : (op == CmpOp.In) = false := by cases op <;> first | rfl | exact absurd rfl h
  have e2 : (op == CmpOp.NotIn) = false := by cases op <;> first | rfl | exact absurd rfl h2
  cases b <;> simp [behindInMarks, e1, e2]
/-- a comparison as a value, as a test -/
def tB (t : TE) : TT := fun σ H Q => t σ H fun x H1 => ∃ c, x = .bl c ∧ Q c H1
theorem pt_cmp {op : CmpOp} {t : TE} (h : PC X op a b t) (h1 : behindInMarks op b = false := by first | exact nobehind _ (by decide) (by decide) | rfl) : PT X (.Compare a [op] [b] pos) (tB t) := by
  intro pins s σ H Q I hw
  refine wpAny_isTrue_Compare1 (thn (h pins s σ H _ I hw) fun v s1 h1 => thn h1 fun u s2 h2 => thn h2 fun c s3 ⟨x, H1, I1, r1, q1⟩ => ?_) h1
  obtain ⟨d, rfl, q⟩ := q1
  cases r1
  exact wpAny_truthy_bool ⟨H1, I1, q⟩
/-- an expression whose value is a bool, as a test -/
theorem pt_val {e : Expr} {t : TE} (h : PE X e t) (he : ∀ whole, isTrue e X.env whole = (do let v ← whole; standAt e.pos; holding [v] (truthy v)) := by intro _; rfl) : PT X e (tB t) := by
  intro pins s σ H Q I hw
  refine isTrue_plain (thn (h pins s σ H _ I hw) fun v s1 ⟨x, H1, I1, r1, q1⟩ => ?_) (he _)
  obtain ⟨d, rfl, q⟩ := q1
  cases r1
  exact wpAny_truthy_bool ⟨H1, I1, q⟩

/-! ### and, or, not -/
variable {tA tB' : TT} {rest : List Expr}
def tAnd (t u : TT) : TT := fun σ H Q => t σ H fun c H1 => if c = true then u σ H1 Q else Q false H1
def tOr (t u : TT) : TT := fun σ H Q => t σ H fun c H1 => if c = true then Q true H1 else u σ H1 Q
def tNot (t : TT) : TT := fun σ H Q => t σ H fun c H1 => Q (!c) H1
theorem pw_and1 (ha : PT X a tA) : PW X (.BoolOp .And [a] pos) tA := by
  intro wh pins s σ H Q I h
  refine isTrue_and (thn (ha pins s σ H Q I h) fun c s1 e => ?_)
  cases c with
  | true => exact isTrue_and_nil e
  | false => exact e
theorem pw_or1 (ha : PT X a tA) : PW X (.BoolOp .Or [a] pos) tA := by
  intro wh pins s σ H Q I h
  refine isTrue_or (thn (ha pins s σ H Q I h) fun c s1 e => ?_)
  cases c with
  | false => exact isTrue_or_nil e
  | true => exact e
theorem pw_and (ha : PT X a tA) (hb : PW X (.BoolOp .And (b :: rest) pos) tB') : PW X (.BoolOp .And (a :: b :: rest) pos) (tAnd tA tB') := by
  intro wh pins s σ H Q I h
  refine isTrue_and (thn (ha pins s σ H _ I h) fun c s1 ⟨H1, I1, q1⟩ => ?_)
  cases c with
  | true => exact hb wh pins s1 σ H1 Q I1 q1
  | false => exact ⟨H1, I1, q1⟩
theorem pw_or (ha : PT X a tA) (hb : PW X (.BoolOp .Or (b :: rest) pos) tB') : PW X (.BoolOp .Or (a :: b :: rest) pos) (tOr tA tB') := by
  intro wh pins s σ H Q I h
  refine isTrue_or (thn (ha pins s σ H _ I h) fun c s1 ⟨H1, I1, q1⟩ => ?_)
  cases c with
  | true => exact ⟨H1, I1, q1⟩
  | false => exact hb wh pins s1 σ H1 Q I1 q1
theorem pt_not (ha : PT X a tA) : PT X (.UnaryOp .Not a pos) (tNot tA) := by
  intro pins s σ H Q I h
  exact isTrue_not (ha pins s σ H (fun c H1 => Q (!c) H1) I h)
/-- .. as values (bools) -/
def tAndV (ta tb : TE) : TE := fun σ H Q => ta σ H fun x H1 => ∃ c, x = .bl c ∧ if c = true then tb σ H1 Q else Q (.bl false) H1
def tNotV (ta : TE) : TE := fun σ H Q => ta σ H fun x H1 => ∃ c, x = .bl c ∧ Q (.bl (!c)) H1
theorem pe_one {op} {t : TE} (h : PE X a t) : PE X (.BoolOp op [a] pos) t := fun pins s σ H Q I hw => BoolOp_one (h pins s σ H Q I hw)
theorem pe_and (ha : PE X a ta) (hb : PE X (.BoolOp .And (b :: rest) pos) tb) : PE X (.BoolOp .And (a :: b :: rest) pos) (tAndV ta tb) := by
  intro pins s σ H Q I h
  refine BoolOp_and (thn (ha pins s σ H _ I h) fun v s1 ⟨x, H1, I1, r1, q1⟩ => ?_)
  obtain ⟨c, rfl, q1⟩ := q1
  cases r1
  refine wpAny_truthy_bool ?_
  cases c with
  | true => exact hb pins s1 σ H1 Q I1 q1
  | false => exact ⟨.bl false, H1, I1, rfl, q1⟩
theorem pe_not (ha : PE X a ta) : PE X (.UnaryOp .Not a pos) (tNotV ta) := by
  intro pins s σ H Q I h
  refine UnaryOp_ (thn (ha pins s σ H _ I h) fun v s1 ⟨x, H1, I1, r1, q1⟩ => ?_)
  obtain ⟨c, rfl, q1⟩ := q1
  cases r1
  exact not_of (wpAny_truthy_bool ⟨.bl (!c), H1, I1, rfl, q1⟩)
end
end L2

namespace L2
open PySem PySem.Spec PyProof.Rows

/-! ### a list, a tuple that is read: tracked, frozen, or an object of the module -/
def SqL (K : PySem.W.Frag) (H : Hp) (a : Addr) (xs : List V) : Prop :=
  Rd H a (.lst xs) ∨
    ∃ (o : Obj) (its : Array Value) (n : Nat), K.lookup a = some o ∧ o.cls = .type "list" ∧ o.dict = none ∧ o.data = .seq its n ∧ its.size ≤ sizeLine ∧ Vals xs its.toList
def SqT (K : PySem.W.Frag) (H : Hp) (a : Addr) (xs : List V) : Prop :=
  Rd H a (.tup xs) ∨
    ∃ (o : Obj) (its : Array Value) (n : Nat), K.lookup a = some o ∧ o.cls = .type "tuple" ∧ o.data = .seq its n ∧ its.size ≤ sizeLine ∧ Vals xs its.toList
def absV : Value → Option V
  | .none => some .non
  | .bool b => some (.bl b)
  | .int i _ => some (.int i)
  | .str x _ => some (.str x)
  | .bytes b _ => some (.byt b)
  | .float b _ => some (.flt b)
  | .ref a => some (.ref a)
  | .type n => some (.ty n)
  | _ => none
theorem RelV.abs {x : V} {u : Value} (r : RelV x u) : absV u = some x := by
  cases x with
  | non => cases r; rfl
  | bl _ => cases r; rfl
  | int _ => obtain ⟨t, rfl⟩ := r; rfl
  | str _ => obtain ⟨t, rfl⟩ := r; rfl
  | byt _ => obtain ⟨t, rfl⟩ := r; rfl
  | flt _ => obtain ⟨t, rfl⟩ := r; rfl
  | ref _ => cases r; rfl
  | ty _ => cases r; rfl
theorem RelV.inj {x y : V} {u : Value} (r : RelV x u) (q : RelV y u) : x = y := Option.some.inj (r.abs.symm.trans q.abs)
theorem Vals.inj : ∀ {xs ys : List V} {us : List Value}, Vals xs us → Vals ys us → xs = ys
  | _, _, _, .nil, .nil => rfl
  | _, _, _, .cons r t, .cons r' t' => by rw [r.inj r', Vals.inj t t']
section
variable {X : Cx} {pins : List (Addr × Obj)} {σ : St} {H : Hp} {s : Shared} {a : Addr} {xs ys : List V}
theorem SqL.of {K : PySem.W.Frag} (h : H a = some (.lst xs)) : SqL K H a xs := .inl (.inl h)
theorem SqT.of {K : PySem.W.Frag} (h : H a = some (.tup xs)) : SqT K H a xs := .inl (.inl h)
theorem Inv.list (I : Inv X pins σ H s) (h : SqL X.K H a xs) : ∃ its : List Value, Vals xs its ∧ PlainL s.heap a its.toArray ∧ xs.length ≤ sizeLine := by
  rcases h with h | ⟨o, its, n, hk, hc, hd, hs, hz, r⟩
  · obtain ⟨z, its, n, r, e⟩ := h.ok I.hok
    exact ⟨its, r, ⟨_, n, e, rfl, rfl, rfl⟩, z⟩
  · refine ⟨its.toList, r, ⟨o, n, I.kIn a o hk, hc, hd, by simpa using hs⟩, ?_⟩
    have e := r.length
    simp only [Array.length_toList] at e
    omega
theorem Inv.tuple (I : Inv X pins σ H s) (h : SqT X.K H a xs) : ∃ its : List Value, Vals xs its ∧ IsTup s.heap a its.toArray ∧ xs.length ≤ sizeLine := by
  rcases h with h | ⟨o, its, n, hk, hc, hs, hz, r⟩
  · obtain ⟨z, its, r, p⟩ := h.ok I.hok
    exact ⟨its, r, p, z⟩
  · refine ⟨its.toList, r, ⟨o, I.kIn a o hk, hc, n, by simpa using hs⟩, ?_⟩
    have e := r.length
    simp only [Array.length_toList] at e
    omega
theorem Inv.list_inj (I : Inv X pins σ H s) (h : SqL X.K H a xs) (h' : SqL X.K H a ys) : xs = ys := by
  obtain ⟨its, r, ⟨o, n, e, _, _, d⟩, _⟩ := I.list h
  obtain ⟨its', r', ⟨o', n', e', _, _, d'⟩, _⟩ := I.list h'
  rw [e] at e'; cases e'
  rw [d] at d'
  injection d' with d1 _
  have : its = its' := by simpa using congrArg Array.toList d1
  subst this
  exact r.inj r'
theorem Inv.tuple_inj (I : Inv X pins σ H s) (h : SqT X.K H a xs) (h' : SqT X.K H a ys) : xs = ys := by
  obtain ⟨its, r, ⟨o, e, _, n, d⟩, _⟩ := I.tuple h
  obtain ⟨its', r', ⟨o', e', _, n', d'⟩, _⟩ := I.tuple h'
  rw [e] at e'; cases e'
  rw [d] at d'
  injection d' with d1 _
  have : its = its' := by simpa using congrArg Array.toList d1
  subst this
  exact r.inj r'
end

/-! ### another wish about exceptions -/
abbrev Cx.wish (X : Cx) (E : Value → Shared → Prop) : Cx := { X with xe := E }
/-- no exception leaves -/
abbrev Cx.nox (X : Cx) : Cx := X.wish fun _ _ => False
theorem Cx.Ok.wish {X : Cx} (ok : X.Ok) (E : Value → Shared → Prop) : (X.wish E).Ok :=
  ⟨ok.mod, ok.kind, ok.glob, ok.blt, ok.above, ok.inj, ok.has, ok.cab, ok.hd, ok.frames, ok.stk, ok.exf, ok.bs, ok.bsz, ok.noex, ok.exfs, ok.funs, ok.frf⟩
theorem Cx.Ok.unwish {X : Cx} {E : Value → Shared → Prop} (ok : (X.wish E).Ok) : X.Ok :=
  ⟨ok.mod, ok.kind, ok.glob, ok.blt, ok.above, ok.inj, ok.has, ok.cab, ok.hd, ok.frames, ok.stk, ok.exf, ok.bs, ok.bsz, ok.noex, ok.exfs, ok.funs, ok.frf⟩
section
variable {X : Cx} {pins : List (Addr × Obj)} {σ : St} {H : Hp} {s : Shared} {E : Value → Shared → Prop}
theorem Inv.wish (I : Inv X pins σ H s) (E : Value → Shared → Prop) : Inv (X.wish E) pins σ H s := ⟨I.ok.wish E, I.os, I.bare, I.base, I.loc, I.cell, I.free, I.freeC, I.pin, I.hok, I.len⟩
theorem Inv.unwish (I : Inv (X.wish E) pins σ H s) : Inv X pins σ H s := ⟨I.ok.unwish, I.os, I.bare, I.base, I.loc, I.cell, I.free, I.freeC, I.pin, I.hok, I.len⟩
theorem SP.unwish {D : Ends} {f : Flow} {s' : Shared} (h : SP (X.wish E) pins D f s') : SP X pins D f s' := by
  cases f with
  | next => obtain ⟨σ', H', I, q⟩ := h; exact ⟨σ', H', I.unwish, q⟩
  | brk => obtain ⟨σ', H', I, q⟩ := h; exact ⟨σ', H', I.unwish, q⟩
  | cont => obtain ⟨σ', H', I, q⟩ := h; exact ⟨σ', H', I.unwish, q⟩
  | ret u => obtain ⟨v, σ', H', I, r, q⟩ := h; exact ⟨v, σ', H', I.unwish, r, q⟩
theorem PSs.nox {st : List Stmt} {t : TS} (h : PSs X.nox st t) : PSs X st t := fun pins s σ H D I hw =>
  wpAny_mono (h pins s σ H D (I.wish _) hw) (fun _ _ q => q.unwish) fun _ _ z => False.elim z
end

/-! ### blocks and small statements -/
section
variable {X : Cx} {st : Stmt} {rest : List Stmt} {t u : TS} {e : Expr} {te : TE} {pos : Pos}
def tNext : TS := fun D σ H => D.nx σ H
def tSeq (t u : TS) : TS := fun D σ H => t { D with nx := u D } σ H
theorem pss_nil : PSs X [] tNext := fun _ _ σ H _ I h => wpAny_execs_nil ⟨σ, H, I, h⟩
theorem pss_cons (h1 : PS X st t) (h2 : PSs X rest u) : PSs X (st :: rest) (tSeq t u) := by
  intro pins s σ H D I h
  refine wpAny_execs_cons (thn (h1 pins s σ H { D with nx := u D } I h) fun f s1 q => ?_)
  cases f with
  | next =>
    obtain ⟨σ', H', I', q⟩ := q
    exact h2 pins s1 σ' H' D I' q
  | ret v => exact q
  | brk => exact q
  | cont => exact q
theorem pss_one (h1 : PS X st t) : PSs X [st] t := by
  intro pins s σ H D I h
  refine wpAny_execs_cons (thn (h1 pins s σ H D I h) fun f s1 q => ?_)
  cases f with
  | next => exact wpAny_execs_nil q
  | ret v => exact q
  | brk => exact q
  | cont => exact q
/-- in a def's body nothing is shown -/
theorem Inv.quiet {pins : List (Addr × Obj)} {σ : St} {H : Hp} {s : Shared} (I : Inv X pins σ H s) : interactive X.env = false := by simp [interactive, I.ok.kind]
/-- an expression whose value is dropped -/
def tDrop (te : TE) : TS := fun D σ H => te σ H fun _ H1 => D.nx σ H1
theorem ps_expr (he : PE X e te) (hs : swapsWith e none pos.line X.env = pure false := by rfl) : PS X (.Expr e pos) (tDrop te) := by
  intro pins s σ H D I h
  exact wpAny_Expr_any (thn (he pins s σ H _ I h) fun v s1 ⟨x, H1, I1, r1, q1⟩ => ⟨σ, H1, I1, q1⟩) I.quiet hs
def tRet (te : TE) : TS := fun D σ H => te σ H D.rt
theorem ps_ret (he : PE X e te) : PS X (.Return (some e) pos) (tRet te) := by
  intro pins s σ H D I h
  exact wpAny_Return_some (thn (he pins s σ H _ I h) fun v s1 ⟨x, H1, I1, r1, q1⟩ => ⟨x, σ, H1, I1, r1, q1⟩)
def tIfS (c : TT) (t u : TS) : TS := fun D σ H => c σ H fun b H1 => if b = true then t D σ H1 else u D σ H1
theorem ps_if {c : Expr} {a b : List Stmt} {tc : TT} (hc : PT X c tc) (ha : PSs X a t) (hb : PSs X b u) : PS X (.If c a b pos) (tIfS tc t u) := by
  intro pins s σ H D I h
  refine wpAny_If (thn (hc pins s σ H _ I h) fun d s1 ⟨H1, I1, q1⟩ => ?_)
  cases d with
  | true => exact ha pins s1 σ H1 D I1 q1
  | false => exact hb pins s1 σ H1 D I1 q1
/-- code that the proof never comes to -/
def tNever : TS := fun _ _ _ => False
theorem ps_never : PS X st tNever := fun _ _ _ _ _ _ h => h.elim
end

/-! ### targets -/
abbrev TG := V → St → Hp → (St → Hp → Prop) → Prop
def PG (X : Cx) (target : Expr) (t : TG) : Prop :=
  ∀ (pins : List (Addr × Obj)) (s : Shared) (σ : St) (H : Hp) (v : V) (u : Value) (Q : St → Hp → Prop), Inv X pins σ H s → RelV v u → t v σ H Q →
    wpAny (model X.prog X.w) X.A (assign target X.env u) (fun _ s' => ∃ σ' H', Inv X pins σ' H' s' ∧ Q σ' H') X.xe s
section
variable {X : Cx} {pos : Pos}
def gName (i : Nat) : TG := fun v σ H Q => Q (σ.set i (some v)) H
theorem pg_name {i : Nat} {x : Str} (hN : X.N.Nodup) (hi : X.N[i]? = some x) (hx : Loc X.env.scope x) (hf : X.fn x = true ∨ X.env.scope.names.lookup x = some .local := by first | exact .inl rfl | exact .inr rfl | assumption) : PG X (.Name x pos) (gName i) := by
  intro pins s σ H v u Q I r h
  exact wpAny_assign_Name (store_ok I hN hi hx r (fun s' I' => ⟨_, H, I', h⟩) hf)
/-- target = value -/
def tAsg (te : TE) (g : TG) : TS := fun D σ H => te σ H fun x H1 => g x σ H1 D.nx
/-- name = value -/
theorem ps_set {i : Nat} {x : Str} {e : Expr} {te : TE} {pos' : Pos} (hN : X.N.Nodup) (hi : X.N[i]? = some x) (hx : Loc X.env.scope x) (he : PE X e te) (hs : swapsWith e (some (.Name x pos')) pos.line X.env = pure false := by rfl) (hf : X.fn x = true ∨ X.env.scope.names.lookup x = some .local := by first | exact .inl rfl | exact .inr rfl | assumption) :
    PS X (.Assign [.Name x pos'] e pos) (tAsg te (gName i)) := by
  intro pins s σ H D I h
  refine wpAny_Assign_Name (thn (he pins s σ H _ I h) fun v s1 ⟨y, H1, I1, r1, q1⟩ => ?_) hs
  exact store_ok I1 hN hi hx r1 (fun s2 I2 => ⟨_, H1, I2, q1⟩) hf
end

/-! ### while -/
section
variable {X : Cx} {pos : Pos}
/-- the invariant W with its measure -/
def tWhile (c : TT) (tb : TS) : TS := fun D σ H => ∃ W : Nat → St → Hp → Prop, (∃ m, W m σ H) ∧ ∀ m σ H, W m σ H →
  c σ H fun b H1 => if b = true then ∃ N : St → Hp → Prop, (∀ σ' H', N σ' H' → ∃ m', m' < m ∧ W m' σ' H') ∧ tb { D with nx := N, ct := N, bk := D.nx } σ H1 else D.nx σ H1
theorem ps_while {c : Expr} {body : List Stmt} {tc : TT} {tb : TS} (hp : PassesOwn (model X.prog X.w) X.A X.env X.xe) (hc : PT X c tc) (hb : PSs X body tb) : PS X (.While c body [] pos) (tWhile tc tb) := by
  intro pins s σ H D I h
  obtain ⟨W, ⟨m0, w0⟩, turn⟩ := h
  refine wpAny_While (codeAny_whileLoop (fun n s' => ∃ σ' H', Inv X pins σ' H' s' ∧ W n σ' H') ?_ m0 ⟨σ, H, I, w0⟩)
  rintro n s1 ⟨σ1, H1, I1, w1⟩
  refine wpAny_passesOwn hp (thn (hc pins s1 σ1 H1 _ I1 (turn n σ1 H1 w1)) fun b s2 ⟨H2, I2, q2⟩ => ?_)
  cases b with
  | true =>
    obtain ⟨N, hN, q2⟩ := q2
    rw [if_pos rfl]
    refine wpAny_passesOwn hp (thn (hb pins s2 σ1 H2 _ I2 q2) fun f s3 q3 => ?_)
    cases f with
    | next =>
      obtain ⟨σ3, H3, I3, n3⟩ := q3
      obtain ⟨m', hm, w3⟩ := hN σ3 H3 n3
      exact ⟨m', hm, σ3, H3, I3, w3⟩
    | cont =>
      obtain ⟨σ3, H3, I3, n3⟩ := q3
      obtain ⟨m', hm, w3⟩ := hN σ3 H3 n3
      exact ⟨m', hm, σ3, H3, I3, w3⟩
    | brk => exact q3
    | ret v => exact q3
  | false =>
    rw [if_neg Bool.false_ne_true]
    exact wpAny_execs_nil ⟨σ1, H2, I2, q2⟩
end

/-! ### what a loop or a comprehension walks -/
/-- at turn i: it yields x (the heap may grow), or it stops -/
structure It where
  go : Nat → Hp → Prop
  yld : Nat → Hp → V → Hp → Prop
  stop : Nat → Hp → Prop
/-- the iterator's own objects may turn: they are not the frame's, not pinned, younger than the entry (or a comprehension's own) -/
def FpOk (X : Cx) (pins : List (Addr × Obj)) (H : Hp) (b : Addr) : Prop :=
  H b = none ∧ b ≠ X.env.locals ∧ b ∉ X.fs ∧ (b ∈ X.ex ∨ X.s₀.heap.objs.size ≤ b) ∧ (∀ x c, X.env.cells.lookup x = some c → c ≠ b) ∧ ∀ p ∈ X.pn ++ pins, p.1 ≠ b
theorem Inv.fpOk {X : Cx} {pins : List (Addr × Obj)} {σ : St} {H H' : Hp} {s : Shared} {b : Addr} (I : Inv X pins σ H s) (hb : s.heap.objs.size ≤ b) (hn : H' b = none) : FpOk X pins H' b := by
  refine ⟨hn, Nat.ne_of_gt (Nat.lt_of_lt_of_le I.lt hb), I.nofs hb, .inr (Nat.le_trans I.sz hb), fun x c e z => ?_, fun p hp z => ?_⟩
  · obtain ⟨v, q⟩ := I.cell x c e
    exact absurd (Nat.lt_of_lt_of_le q.lt (by rw [z]; exact hb)) (Nat.lt_irrefl _)
  · exact absurd (Nat.lt_of_lt_of_le (Heap.lt_size (I.pin p hp).1) (by rw [z]; exact hb)) (Nat.lt_irrefl _)
structure Turn (P : Program) (w : World) (K : PySem.W.Frag) (tg : Expr) (J : It) (fp : List Addr) (it : Addr) (tn : Nat → Heap → Prop) : Prop where
  mem : it ∈ fp
  obj : ∀ i h, tn i h → ∀ b ∈ fp, ∃ o, h.get? b = some o ∧ ∀ v, o.data ≠ .cell v
  keep : ∀ i h h', tn i h → (∀ b ∈ fp, ∀ o, h.get? b = some o → h'.get? b = some o) → tn i h'
  item : ∀ (X : Cx), X.prog = P → X.w = w → X.K = K → X.calm = true → ∀ (i : Nat) (pins : List (Addr × Obj)) (s : Shared) (σ : St) (H : Hp) (E : Value → Shared → Prop), Inv X pins σ H s → (∀ b ∈ fp, FpOk X pins H b) → tn i s.heap → J.go i H →
    wpAny (model P w) X.A (pyNext (.ref it)) (fun r s1 => ∃ u, r = some u ∧
      wpAny (model P w) X.A (letOwnedTupleGo tg (.ref it) u) (fun _ s2 => ∃ x H', Inv X pins σ H' s2 ∧ RelV x u ∧ J.yld i H x H' ∧ tn (i + 1) s2.heap ∧ ∀ b ∈ fp, H' b = none) E s1) E s
  done : ∀ (X : Cx), X.prog = P → X.w = w → X.K = K → X.calm = true → ∀ (i : Nat) (pins : List (Addr × Obj)) (s : Shared) (σ : St) (H : Hp) (E : Value → Shared → Prop), Inv X pins σ H s → (∀ b ∈ fp, FpOk X pins H b) → tn i s.heap → J.stop i H →
    wpAny (model P w) X.A (pyNext (.ref it)) (fun r s1 => r = none ∧ Inv X pins σ H s1) E s
  self : ∀ (A : Around) (i : Nat) (s : Shared) (Q : Value → Shared → Prop) (E : Value → Shared → Prop), tn i s.heap → Q (.ref it) s → wpAny (model P w) A (pyIter (.ref it)) Q E s
abbrev TI := St → Hp → (It → Hp → Prop) → Prop
/-- an iterator has come -/
def PIE (X : Cx) (pins : List (Addr × Obj)) (σ : St) (tg : Expr) (R : It → Hp → Prop) (itv : Value) (s2 : Shared) : Prop :=
  ∃ (it : Addr) (fp : List Addr) (tn : Nat → Heap → Prop) (J : It) (H' : Hp), itv = .ref it ∧ Inv X pins σ H' s2 ∧ Turn X.prog X.w X.K tg J fp it tn ∧ tn 0 s2.heap ∧ (∀ b ∈ fp, FpOk X pins H' b) ∧ R J H'
def PI (X : Cx) (tg iter : Expr) (wi : TI) : Prop :=
  ∀ (pins : List (Addr × Obj)) (s : Shared) (σ : St) (H : Hp) (R : It → Hp → Prop), Inv X pins σ H s → wi σ H R →
    wpAny (model X.prog X.w) X.A (eval iter X.env) (fun v s1 => wpAny (model X.prog X.w) X.A (pyIter v) (PIE X pins σ tg R) X.xe s1) X.xe s

/-- the step ahead of the store is nothing for an iterator that keeps no tuple -/
theorem go_of {M : Model} {A : Around} {E : Value → Shared → Prop} {s : Shared} {tg : Expr} {it : Addr} {u : Value} {o : Obj} {n : String} {vs : Array Value} {Q : Unit → Shared → Prop} (ho : s.heap.get? it = some o) (hc : o.cls = .type n) (hd : o.data = .fields vs)
    (hn : ["enumerate", "zip", "dict_itemiterator", "dict_reverseitemiterator", "odict_iterator", "itertools.zip_longest", "itertools.pairwise"].contains n = false) (hQ : Q () s) : wpAny M A (letOwnedTupleGo tg (.ref it) u) Q E s := by
  unfold letOwnedTupleGo
  cases tg <;> first
    | exact wpAny_pure hQ
    | (cases u <;> first
        | exact wpAny_pure hQ
        | (refine wpAny_bind (wpAny_load ho ?_)
           rw [hc, hd]
           show wpAny M A (if (["enumerate", "zip", "dict_itemiterator", "dict_reverseitemiterator", "odict_iterator", "itertools.zip_longest", "itertools.pairwise"].contains n && vs[0]? == some (rawInt _)) = true then _ else _) Q E s
           rw [if_neg (by intro h; rw [hn, Bool.false_and] at h; cases h)]
           exact wpAny_pure hQ))

/-- the list at a, as it stands at each turn (a loop may append to it) -/
def Itl (K : PySem.W.Frag) (a : Addr) : It :=
  ⟨fun i H => ∃ xs x, SqL K H a xs ∧ xs[i]? = some x, fun i H x H' => H' = H ∧ ∀ xs, SqL K H a xs → xs[i]? = some x, fun i H => ∃ xs, SqL K H a xs ∧ xs.length ≤ i⟩
def Itt (K : PySem.W.Frag) (a : Addr) : It :=
  ⟨fun i H => ∃ xs x, SqT K H a xs ∧ xs[i]? = some x, fun i H x H' => H' = H ∧ ∀ xs, SqT K H a xs → xs[i]? = some x, fun i H => ∃ xs, SqT K H a xs ∧ xs.length ≤ i⟩
/-- lo, lo + 1, .. (n of them) -/
def Itr (lo : Int) (n : Nat) : It := ⟨fun i _ => i < n, fun i H x H' => H' = H ∧ x = .int (lo + i), fun i _ => n ≤ i⟩
theorem turn_list {P : Program} {w : World} {K : PySem.W.Frag} {tg : Expr} (a it : Addr) : Turn P w K tg (Itl K a) [it] it (fun i h => h.IsListIter it a i) where
  mem := by simp
  obj := fun i h st b hb => by
    have e : b = it := by simpa using hb
    subst e
    obtain ⟨o, e, c, d⟩ := st
    exact ⟨o, e, fun v z => by rw [d] at z; cases z⟩
  keep := fun i h h' st k => st.at fun o e => k it (by simp) o e
  item := by
    intro X hP hw hK hc i pins s σ H E I hf st hg
    subst hP hw hK
    obtain ⟨xs, x, hq, hx⟩ := hg
    obtain ⟨its, rv, p, hz⟩ := I.list hq
    obtain ⟨u, hu, ru⟩ := rv.get hx
    obtain ⟨f0, f1, f2, f3, f4, f5⟩ := hf it (by simp)
    refine wpAny_pyNext_list_item st p.isList (x := u) (by simpa using hu) fun h' st' sb => ?_
    have I1 : Inv X pins σ H { s with heap := h' } := I.turned (t' := s.toks) (fun b o hb e => (sb.2 b hb).trans e) f0 f1 f3 f4 f5
    obtain ⟨o, e, c, d⟩ := id st'
    exact ⟨u, rfl, go_of (s := { s with heap := h' }) e c d (by decide) ⟨x, H, I1, ru, ⟨rfl, fun ys hy => by rw [I.list_inj hy hq]; exact hx⟩, st', fun b hb => (hf b hb).1⟩⟩
  done := by
    intro X hP hw hK hc i pins s σ H E I hf st hg
    subst hP hw hK
    obtain ⟨xs, hq, hx⟩ := hg
    obtain ⟨its, rv, p, hz⟩ := I.list hq
    obtain ⟨f0, f1, f2, f3, f4, f5⟩ := hf it (by simp)
    have hl := rv.length
    exact wpAny_pyNext_list_end (I.ok.hd hc) st p.isList (by simp; omega) fun h' eb => ⟨rfl, I.turned (t' := s.toks) (fun b o hb e => eb b o hb e) f0 f1 f3 f4 f5⟩
  self := fun _ _ _ _ _ st h => wpAny_pyIter_listiter st h
theorem turn_tuple {P : Program} {w : World} {K : PySem.W.Frag} {tg : Expr} (a it : Addr) : Turn P w K tg (Itt K a) [it] it (fun i h => h.IsTupleIter it a i) where
  mem := by simp
  obj := fun i h st b hb => by
    have e : b = it := by simpa using hb
    subst e
    obtain ⟨o, e, c, d⟩ := st
    exact ⟨o, e, fun v z => by rw [d] at z; cases z⟩
  keep := fun i h h' st k => st.at fun o e => k it (by simp) o e
  item := by
    intro X hP hw hK hc i pins s σ H E I hf st hg
    subst hP hw hK
    obtain ⟨xs, x, hq, hx⟩ := hg
    obtain ⟨its, rv, p, hz⟩ := I.tuple hq
    obtain ⟨u, hu, ru⟩ := rv.get hx
    obtain ⟨f0, f1, f2, f3, f4, f5⟩ := hf it (by simp)
    refine wpAny_pyNext_tuple_item st (show s.heap.IsTuple a its.toArray from p) (x := u) (by simpa using hu) fun h' st' sb => ?_
    have I1 : Inv X pins σ H { s with heap := h' } := I.turned (t' := s.toks) (fun b o hb e => (sb.2 b hb).trans e) f0 f1 f3 f4 f5
    obtain ⟨o, e, c, d⟩ := id st'
    exact ⟨u, rfl, go_of (s := { s with heap := h' }) e c d (by decide) ⟨x, H, I1, ru, ⟨rfl, fun ys hy => by rw [I.tuple_inj hy hq]; exact hx⟩, st', fun b hb => (hf b hb).1⟩⟩
  done := by
    intro X hP hw hK hc i pins s σ H E I hf st hg
    subst hP hw hK
    obtain ⟨xs, hq, hx⟩ := hg
    obtain ⟨its, rv, p, hz⟩ := I.tuple hq
    obtain ⟨f0, f1, f2, f3, f4, f5⟩ := hf it (by simp)
    have hl := rv.length
    exact wpAny_pyNext_tuple_end (I.ok.hd hc) st (show s.heap.IsTuple a its.toArray from p) (by simp; omega) fun h' eb => ⟨rfl, I.turned (t' := s.toks) (fun b o hb e => eb b o hb e) f0 f1 f3 f4 f5⟩
  self := fun _ _ _ _ _ st h => wpAny_pyIter_tupleiter st h
theorem turn_range {P : Program} {w : World} {K : PySem.W.Frag} {tg : Expr} (it : Addr) (lo : Int) (n : Nat) : Turn P w K tg (Itr lo n) [it] it (fun i h => IsRangeIter h it (lo + (i : Nat) * 1) ((n : Int) - (i : Nat)) 1) where
  mem := by simp
  obj := fun i h st b hb => by
    have e : b = it := by simpa using hb
    subst e
    exact ⟨_, st, fun v z => by
      have z' : Data.fields _ = Data.cell v := z
      cases z'⟩
  keep := fun i h h' st k => k it (by simp) _ st
  item := by
    intro X hP hw hK hc i pins s σ H E I hf st hg
    subst hP hw hK
    obtain ⟨f0, f1, f2, f3, f4, f5⟩ := hf it (by simp)
    have W := Walks.range (prog := X.prog) (w := X.w) (I.ok.hd hc) it lo 1 n
    refine W.item i s _ _ hg st fun v h' tk hv st' kk => ?_
    obtain ⟨t, rfl⟩ := hv
    have I1 : Inv X pins σ H { s with heap := h', toks := tk } := I.turned (fun b o hb e => kk b o (by simpa using hb) e) f0 f1 f3 f4 f5
    refine ⟨_, rfl, go_of (s := { s with heap := h', toks := tk }) (n := "range_iterator") st' rfl rfl (by decide) ⟨.int (lo + i), H, I1, ⟨t, ?_⟩, ⟨rfl, rfl⟩, st', fun b hb => (hf b hb).1⟩⟩
    rw [Int.mul_one]
  done := by
    intro X hP hw hK hc i pins s σ H E I hf st hg
    subst hP hw hK
    obtain ⟨f0, f1, f2, f3, f4, f5⟩ := hf it (by simp)
    exact wpAny_pyNext_range_end (I.ok.hd hc) st (by have : n ≤ i := hg; omega) fun h' eb => ⟨rfl, I.turned (t' := s.toks) (fun b o hb e => eb b o hb e) f0 f1 f3 f4 f5⟩
  self := fun _ _ _ _ _ st h => wpAny_pyIter_rangeiter st h
end L2

namespace L2
open PySem PySem.Spec PyProof.Rows
section
variable {X : Cx} {tg : Expr}
def iList (K : PySem.W.Frag) (tl : TE) : TI := fun σ H R => tl σ H fun x H1 => ∃ a, x = .ref a ∧ (∃ xs, SqL K H1 a xs) ∧ R (Itl K a) H1
theorem pi_list {l : Expr} {tl : TE} (hl : PE X l tl) : PI X tg l (iList X.K tl) := by
  intro pins s σ H R I h
  refine thn (hl pins s σ H _ I h) fun v s1 ⟨x, H1, I1, r1, q1⟩ => ?_
  obtain ⟨a, e, ⟨xs, hq⟩, q⟩ := q1
  subst e
  cases r1
  obtain ⟨its, rv, p, hz⟩ := I1.list hq
  refine wpAny_pyIter_list p.isList ?_
  refine ⟨s1.heap.objs.size, [s1.heap.objs.size], _, _, H1, rfl, I1.kept (t' := s1.toks) fun b o e => Heap.get?_push_of_some _ e, turn_list a _, ⟨_, Heap.get?_push_size _ rfl, rfl, rfl⟩, fun b hb => ?_, q⟩
  have e : b = s1.heap.objs.size := by simpa using hb
  subst e
  exact I1.fpOk (Nat.le_refl _) (I1.hok.fresh (Nat.le_refl _))
/-- a range object just made, walked -/
theorem range_it {pins : List (Addr × Obj)} {σ : St} {H : Hp} {s : Shared} {R : It → Hp → Prop} {E : Value → Shared → Prop} {lo hi : Int} {t u v : Tok} {tk : Nat} (I : Inv X pins σ H s) (h1 : -(2 ^ 62) ≤ lo) (h2 : lo < 2 ^ 62) (h3 : -(2 ^ 62) ≤ hi) (h4 : hi < 2 ^ 62)
    (q : R (Itr lo (hi - lo).toNat) H) : wpAny (model X.prog X.w) X.A (pyIter (.ref s.heap.objs.size)) (PIE X pins σ tg R) E { s with heap := s.heap.push { cls := .type "range", data := .fields #[.int lo t, .int hi u, .int 1 v] }, toks := tk } := by
  refine wpAny_pyIter_range (IsRange.new ..) (small_one h1 h2 h3 h4) ?_
  have I1 : Inv X pins σ H { s with heap := s.heap.push { cls := .type "range", data := .fields #[.int lo t, .int hi u, .int 1 v] }, toks := tk } := I.kept fun b o e => Heap.get?_push_of_some _ e
  refine ⟨(s.heap.push { cls := .type "range", data := .fields #[.int lo t, .int hi u, .int 1 v] }).objs.size, [(s.heap.push { cls := .type "range", data := .fields #[.int lo t, .int hi u, .int 1 v] }).objs.size], _, _, H, rfl,
    I1.kept (t' := tk) fun b o e => Heap.get?_push_of_some _ e, turn_range _ lo (hi - lo).toNat, ?_, fun b hb => ?_, q⟩
  · have e1 : lo + ((0 : Nat) : Int) * 1 = lo := by simp
    have e2 : (((hi - lo).toNat : Nat) : Int) - ((0 : Nat) : Int) = Builtin.Range.rangeSize lo hi 1 := by rw [rangeSize_one]; split <;> omega
    show IsRangeIter _ _ (lo + ((0 : Nat) : Int) * 1) ((((hi - lo).toNat : Nat) : Int) - ((0 : Nat) : Int)) 1
    rw [e1, e2]
    exact Heap.get?_push_size _ rfl
  · have e : b = (s.heap.push { cls := .type "range", data := .fields #[.int lo t, .int hi u, .int 1 v] }).objs.size := by simpa using hb
    subst e
    exact I1.fpOk (Nat.le_refl _) (I1.hok.fresh (Nat.le_refl _))
def iRng1 (ta : TA) : TI := fun σ H R => ta σ H fun vs H1 => ∃ j : Int, vs = [.int j] ∧ -(2 ^ 62) ≤ j ∧ j < 2 ^ 62 ∧ R (Itr 0 j.toNat) H1
theorem pi_range1 {a : Expr} {ta : TA} {p pos : Pos} (hg : Gl X "range") (hm : X.mg "range" = none) (ha : PA X [a] ta) (hs : starEach [a] X.env = [(false, eval a X.env)] := by rfl) : PI X tg (.Call (.Name "range" p) [a] [] pos) (iRng1 ta) := by
  intro pins s σ H R I h
  refine Call_ (ld_blt I hg hm boot_range (PyProof.Rows.callWith_type1 (thn (ha pos pins s σ H _ I h) fun us s1 ⟨vs, H1, I1, r1, q1⟩ => ?_) hs rfl))
  obtain ⟨j, e, q1, q2, q⟩ := q1
  subst e
  cases r1 with
  | cons r rr =>
    cases rr
    obtain ⟨t, rfl⟩ := r
    exact call_range_1 (range_it I1 (by omega) (by omega) q1 q2 (by simpa using q))
/-! ### for -/
/-- W: the invariant by the turn and a measure; N: what the body is to reach -/
def tFor (wi : TI) (g : TG) (tb : TS) : TS := fun D σ H => wi σ H fun J H1 => ∃ W : Nat → Nat → St → Hp → Prop, (∃ m, W 0 m σ H1) ∧ ∀ i m σ H, W i m σ H →
  (J.stop i H ∧ D.nx σ H) ∨ (J.go i H ∧ ∃ N : St → Hp → Prop, (∀ σ' H', N σ' H' → ∃ m', m' < m ∧ W (i + 1) m' σ' H') ∧ ∀ x H', J.yld i H x H' → g x σ H' fun σ2 H2 => tb { D with nx := N, ct := N, bk := D.nx } σ2 H2)
/-- the records at fp as they stand -/
def pinsAt (fp : List Addr) (h : Heap) : List (Addr × Obj) := fp.filterMap fun b => (h.get? b).map fun o => (b, o)
theorem mem_pinsAt {fp : List Addr} {h : Heap} {b : Addr} {o : Obj} (hb : b ∈ fp) (e : h.get? b = some o) : (b, o) ∈ pinsAt fp h := List.mem_filterMap.mpr ⟨b, hb, by rw [e]; rfl⟩
theorem of_pinsAt {fp : List Addr} {h : Heap} {p : Addr × Obj} (hp : p ∈ pinsAt fp h) : p.1 ∈ fp ∧ h.get? p.1 = some p.2 := by
  obtain ⟨b, hb, e⟩ := List.mem_filterMap.mp hp
  cases q : h.get? b with
  | none => rw [q] at e; cases e
  | some o =>
    rw [q] at e
    have e' : (b, o) = p := Option.some.inj e
    subst e'
    exact ⟨hb, q⟩
theorem Inv.pinned {pins : List (Addr × Obj)} {σ : St} {H : Hp} {s : Shared} {fp : List Addr} (I : Inv X pins σ H s) (hf : ∀ b ∈ fp, FpOk X pins H b) (ho : ∀ b ∈ fp, ∃ o, s.heap.get? b = some o ∧ ∀ v, o.data ≠ .cell v) : Inv X (pins ++ pinsAt fp s.heap) σ H s :=
  I.pins_of fun p hp => (List.mem_append.mp hp).elim (fun z => I.pin p (List.mem_append_right _ z)) fun z => by
    obtain ⟨hb, e⟩ := of_pinsAt z
    obtain ⟨f0, f1, f2, _⟩ := hf p.1 hb
    obtain ⟨o, e', d⟩ := ho p.1 hb
    rw [e] at e'; cases e'
    exact ⟨e, f0, f1, f2, d⟩
theorem Inv.unpinned {pins pl : List (Addr × Obj)} {σ : St} {H : Hp} {s : Shared} (I : Inv X (pins ++ pl) σ H s) : Inv X pins σ H s := I.pins_of fun p hp => I.pin p (List.mem_append_right _ (List.mem_append_left _ hp))
theorem ps_for {iter : Expr} {body : List Stmt} {wi : TI} {g : TG} {tb : TS} {pos : Pos} (hp : PassesOwn (model X.prog X.w) X.A X.env X.xe) (hc : X.calm = true) (hi : PI X tg iter wi) (hg : PG X tg g) (hb : PSs X body tb)
    (hs : ∀ x, foldedSetIterable iter X.env x = pure x := by intro _; rfl) : PS X (.For tg iter body [] pos) (tFor wi g tb) := by
  intro pins s σ H D I h
  refine wpAny_For (thn (hi pins s σ H _ I h) fun v s1 h1 => thn h1 fun itv s2 h2 => ?_) hs
  obtain ⟨it, fp, tn, J, H2, e, I2, T, st2, f2, W, ⟨m0, w0⟩, turn⟩ := h2
  subst e
  -- what stays true of the iterator's objects through the loop
  have stat : ∀ {H' : Hp}, (∀ b ∈ fp, H' b = none) → ∀ b ∈ fp, FpOk X pins H' b := fun hn b hb => ⟨hn b hb, (f2 b hb).2⟩
  refine codeAny_forLoop_any (fun n s' => ∃ i σ' H', Inv X pins σ' H' s' ∧ tn i s'.heap ∧ (∀ b ∈ fp, H' b = none) ∧ W i n σ' H') ?_ m0 ⟨0, σ, H2, I2, st2, fun b hb => (f2 b hb).1, w0⟩
  rintro n s3 ⟨i, σ3, H3, I3, st3, fr3, w3⟩
  rcases turn i n σ3 H3 w3 with ⟨stop, qn⟩ | ⟨go, N, hN, step⟩
  · refine wpAny_passesOwn hp (thn (T.done X rfl rfl rfl hc i pins s3 σ3 H3 X.xe I3 (stat fr3) st3 stop) fun r s4 ⟨hr, I4⟩ => ?_)
    subst hr
    exact wpAny_execs_nil ⟨σ3, H3, I4, qn⟩
  · refine wpAny_passesOwn hp (thn (T.item X rfl rfl rfl hc i pins s3 σ3 H3 X.xe I3 (stat fr3) st3 go) fun r s4 ⟨u, hr, h4⟩ => ?_)
    subst hr
    refine wpAny_passesOwn hp (thn h4 fun _ s5 ⟨x, H5, I5, r5, y5, st5, fr5⟩ => ?_)
    have I5' := I5.pinned (stat fr5) (T.obj _ _ st5)
    refine wpAny_passesOwn hp (thn (hg _ s5 σ3 H5 x u _ I5' r5 (step x H5 y5)) fun _ s6 ⟨σ6, H6, I6, q6⟩ => ?_)
    refine wpAny_passesOwn hp (thn (hb _ s6 σ6 H6 _ I6 q6) fun f s7 q7 => ?_)
    have again : ∀ {σ7 : St} {H7 : Hp}, Inv X (pins ++ pinsAt fp s5.heap) σ7 H7 s7 → N σ7 H7 → ∃ m, m < n ∧ ∃ i σ' H', Inv X pins σ' H' s7 ∧ tn i s7.heap ∧ (∀ b ∈ fp, H' b = none) ∧ W i m σ' H' := fun {σ7 H7} I7 n7 => by
      obtain ⟨m', hm, w7⟩ := hN σ7 H7 n7
      refine ⟨m', hm, i + 1, σ7, H7, I7.unpinned, T.keep _ _ _ st5 fun b hb o e => (I7.pin (b, o) (List.mem_append_right _ (List.mem_append_right _ (mem_pinsAt hb e)))).1, fun b hb => ?_, w7⟩
      obtain ⟨o, e, d⟩ := T.obj _ _ st5 b hb
      exact (I7.pin (b, o) (List.mem_append_right _ (List.mem_append_right _ (mem_pinsAt hb e)))).2.1
    cases f with
    | next => obtain ⟨σ7, H7, I7, n7⟩ := q7; exact again I7 n7
    | cont => obtain ⟨σ7, H7, I7, n7⟩ := q7; exact again I7 n7
    | brk => obtain ⟨σ7, H7, I7, q7⟩ := q7; exact ⟨σ7, H7, I7.unpinned, q7⟩
    | ret v => obtain ⟨x7, σ7, H7, I7, r7, q7⟩ := q7; exact ⟨x7, σ7, H7, I7.unpinned, r7, q7⟩
end

/-! ### the forms one uses -/
/-- over a list that the body leaves as it is -/
theorem for_list {K : PySem.W.Frag} {a : Addr} {xs : List V} {g : TG} {tb : TS} {D : Ends} {σ : St} {H : Hp} (Pv : Nat → St → Hp → Prop) (h0 : Pv 0 σ H) (hl : ∀ i σ H, i ≤ xs.length → Pv i σ H → SqL K H a xs)
    (hs : ∀ i x σ H, xs[i]? = some x → Pv i σ H → g x σ H fun σ2 H2 => tb { D with nx := Pv (i + 1), ct := Pv (i + 1), bk := D.nx } σ2 H2) (hd : ∀ σ H, Pv xs.length σ H → D.nx σ H) :
    ∃ W : Nat → Nat → St → Hp → Prop, (∃ m, W 0 m σ H) ∧ ∀ i m σ H, W i m σ H →
      ((Itl K a).stop i H ∧ D.nx σ H) ∨ ((Itl K a).go i H ∧ ∃ N : St → Hp → Prop, (∀ σ' H', N σ' H' → ∃ m', m' < m ∧ W (i + 1) m' σ' H') ∧ ∀ x H', (Itl K a).yld i H x H' → g x σ H' fun σ2 H2 => tb { D with nx := N, ct := N, bk := D.nx } σ2 H2) := by
  refine ⟨fun i m σ H => m = xs.length - i ∧ i ≤ xs.length ∧ Pv i σ H, ⟨xs.length, by simp, Nat.zero_le _, h0⟩, ?_⟩
  rintro i m σ H ⟨rfl, hi, p⟩
  have q := hl i σ H hi p
  by_cases hlt : i < xs.length
  · refine .inr ⟨⟨xs, xs[i], q, by simp [hlt]⟩, Pv (i + 1), fun σ' H' p' => ⟨xs.length - (i + 1), by omega, rfl, hlt, p'⟩, fun x H' y => ?_⟩
    obtain ⟨e, y⟩ := y
    subst e
    exact hs i x σ _ (y xs q) p
  · have e : i = xs.length := by omega
    subst e
    exact .inl ⟨⟨xs, q, Nat.le_refl _⟩, hd σ H p⟩
theorem for_tup {K : PySem.W.Frag} {a : Addr} {xs : List V} {g : TG} {tb : TS} {D : Ends} {σ : St} {H : Hp} (Pv : Nat → St → Hp → Prop) (h0 : Pv 0 σ H) (hl : ∀ i σ H, i ≤ xs.length → Pv i σ H → SqT K H a xs)
    (hs : ∀ i x σ H, xs[i]? = some x → Pv i σ H → g x σ H fun σ2 H2 => tb { D with nx := Pv (i + 1), ct := Pv (i + 1), bk := D.nx } σ2 H2) (hd : ∀ σ H, Pv xs.length σ H → D.nx σ H) :
    ∃ W : Nat → Nat → St → Hp → Prop, (∃ m, W 0 m σ H) ∧ ∀ i m σ H, W i m σ H →
      ((Itt K a).stop i H ∧ D.nx σ H) ∨ ((Itt K a).go i H ∧ ∃ N : St → Hp → Prop, (∀ σ' H', N σ' H' → ∃ m', m' < m ∧ W (i + 1) m' σ' H') ∧ ∀ x H', (Itt K a).yld i H x H' → g x σ H' fun σ2 H2 => tb { D with nx := N, ct := N, bk := D.nx } σ2 H2) := by
  refine ⟨fun i m σ H => m = xs.length - i ∧ i ≤ xs.length ∧ Pv i σ H, ⟨xs.length, by simp, Nat.zero_le _, h0⟩, ?_⟩
  rintro i m σ H ⟨rfl, hi, p⟩
  have q := hl i σ H hi p
  by_cases hlt : i < xs.length
  · refine .inr ⟨⟨xs, xs[i], q, by simp [hlt]⟩, Pv (i + 1), fun σ' H' p' => ⟨xs.length - (i + 1), by omega, rfl, hlt, p'⟩, fun x H' y => ?_⟩
    obtain ⟨e, y⟩ := y
    subst e
    exact hs i x σ _ (y xs q) p
  · have e : i = xs.length := by omega
    subst e
    exact .inl ⟨⟨xs, q, Nat.le_refl _⟩, hd σ H p⟩
theorem for_range {lo : Int} {n : Nat} {g : TG} {tb : TS} {D : Ends} {σ : St} {H : Hp} (Pv : Nat → St → Hp → Prop) (h0 : Pv 0 σ H)
    (hs : ∀ i σ H, i < n → Pv i σ H → g (.int (lo + i)) σ H fun σ2 H2 => tb { D with nx := Pv (i + 1), ct := Pv (i + 1), bk := D.nx } σ2 H2) (hd : ∀ σ H, Pv n σ H → D.nx σ H) :
    ∃ W : Nat → Nat → St → Hp → Prop, (∃ m, W 0 m σ H) ∧ ∀ i m σ H, W i m σ H →
      ((Itr lo n).stop i H ∧ D.nx σ H) ∨ ((Itr lo n).go i H ∧ ∃ N : St → Hp → Prop, (∀ σ' H', N σ' H' → ∃ m', m' < m ∧ W (i + 1) m' σ' H') ∧ ∀ x H', (Itr lo n).yld i H x H' → g x σ H' fun σ2 H2 => tb { D with nx := N, ct := N, bk := D.nx } σ2 H2) := by
  refine ⟨fun i m σ H => m = n - i ∧ i ≤ n ∧ Pv i σ H, ⟨n, by simp, Nat.zero_le _, h0⟩, ?_⟩
  rintro i m σ H ⟨rfl, hi, p⟩
  by_cases hlt : i < n
  · refine .inr ⟨hlt, Pv (i + 1), fun σ' H' p' => ⟨n - (i + 1), by omega, rfl, hlt, p'⟩, fun x H' y => ?_⟩
    obtain ⟨e, y⟩ := y
    subst e y
    exact hs i σ _ hlt p
  · have e : i = n := by omega
    subst e
    exact .inl ⟨Nat.le_refl _, hd σ H p⟩
end L2

namespace L2
open PySem PySem.Spec PyProof.Rows

abbrev R2 := V → V → Hp → VK → Prop
/-- a two-place operation on values: f is binaryOp op, inplaceOp op or compareOp op -/
def OpR (X : Cx) (f : Value → Value → Sem Value) (r : R2) : Prop :=
  ∀ (pins : List (Addr × Obj)) (s : Shared) (σ : St) (H : Hp) (x y : V) (v u : Value) (Q : VK), Inv X pins σ H s → RelV x v → RelV y u → r x y H Q →
    wpAny (model X.prog X.w) X.A (f v u) (EP X pins σ Q) X.xe s
/-- a one-place operation -/
def UnR (X : Cx) (f : Value → Sem Value) (r : V → Hp → VK → Prop) : Prop :=
  ∀ (pins : List (Addr × Obj)) (s : Shared) (σ : St) (H : Hp) (x : V) (v : Value) (Q : VK), Inv X pins σ H s → RelV x v → r x H Q →
    wpAny (model X.prog X.w) X.A (f v) (EP X pins σ Q) X.xe s
/-- a call of a value that is known (a builtin, a type) with values -/
def CallR (X : Cx) (f : Value) (r : List V → Hp → VK → Prop) : Prop :=
  ∀ (pins : List (Addr × Obj)) (s : Shared) (σ : St) (H : Hp) (xs : List V) (us : List Value) (Q : VK), Inv X pins σ H s → Vals xs us → r xs H Q →
    wpAny (model X.prog X.w) X.A (call f us) (EP X pins σ Q) X.xe s
def tOp (r : R2) (ta tb : TE) : TE := fun σ H Q => ta σ H fun x H1 => tb σ H1 fun y H2 => r x y H2 Q
def tUn (r : V → Hp → VK → Prop) (ta : TE) : TE := fun σ H Q => ta σ H fun x H1 => r x H1 Q
/-- ints in, under C, and a value out -/
def rI (C : Int → Int → Prop) (g : Int → Int → V) : R2 := fun x y H Q => ∃ i j, x = .int i ∧ y = .int j ∧ C i j ∧ Q (g i j) H
def rI0 (g : Int → Int → V) : R2 := fun x y H Q => ∃ i j, x = .int i ∧ y = .int j ∧ Q (g i j) H
def rU (g : Int → V) : V → Hp → VK → Prop := fun x H Q => ∃ i, x = .int i ∧ Q (g i) H

section
variable {X : Cx} {a b c : Expr} {ta tb tc : TE} {pos : Pos}

theorem binT (ha : PE X a ta) (hb : PE X b tb) {pins : List (Addr × Obj)} {s : Shared} {σ : St} {H : Hp} {R : V → V → Hp → Prop} (I : Inv X pins σ H s)
    (h : ta σ H fun x H1 => tb σ H1 fun y H2 => R x y H2) {Q : Value → Shared → Prop} {f : Value → Value → Sem Value}
    (hf : ∀ v u s2 x y H2, Inv X pins σ H2 s2 → RelV x v → RelV y u → R x y H2 → wpAny (model X.prog X.w) X.A (f v u) Q X.xe s2) :
    wpAny (model X.prog X.w) X.A (eval a X.env) (fun v s₁ => wpAny (model X.prog X.w) X.A (eval b X.env) (fun u s₂ => wpAny (model X.prog X.w) X.A (f v u) Q X.xe s₂) X.xe s₁) X.xe s := by
  refine thn (ha pins s σ H _ I h) fun v s1 ⟨x, H1, I1, r1, q1⟩ => ?_
  refine thn (hb pins s1 σ H1 _ I1 q1) fun u s2 ⟨y, H2, I2, r2, q2⟩ => ?_
  exact hf v u s2 x y H2 I2 r1 r2 q2

theorem pe_op {op : Operator} {r : R2} (ho : OpR X (binaryOp op) r) (ha : PE X a ta) (hb : PE X b tb) : PE X (.BinOp a op b pos) (tOp r ta tb) := by
  intro pins s σ H Q I h
  exact wpAny_BinOp (binT ha hb I h fun v u s2 x y H2 I2 rx ry q => ho pins s2 σ H2 x y v u Q I2 rx ry q)
theorem pe_un {op : UnaryOp} {r : V → Hp → VK → Prop} (ho : UnR X (unaryOp op) r) (ha : PE X a ta) : PE X (.UnaryOp op a pos) (tUn r ta) := by
  intro pins s σ H Q I h
  exact UnaryOp_ (thn (ha pins s σ H _ I h) fun v s1 ⟨x, H1, I1, r1, q1⟩ => ho pins s1 σ H1 x v Q I1 r1 q1)
/-! ### ints -/
theorem opI {f : Value → Value → Sem Value} {C : Int → Int → Prop} {g : Int → Int → Int}
    (rule : ∀ (i j : Int) (t u : Tok) (s : Shared) (Q : Value → Shared → Prop) (E : Value → Shared → Prop), C i j → Q (.int (g i j) s.toks) { s with toks := s.toks + 1 } → wpAny (model X.prog X.w) X.A (f (.int i t) (.int j u)) Q E s) :
    OpR X f (rI C fun i j => .int (g i j)) := by
  intro pins s σ H x y v u Q I rx ry h
  obtain ⟨i, j, rfl, rfl, hc, q⟩ := h
  obtain ⟨t, rfl⟩ := rx
  obtain ⟨t', rfl⟩ := ry
  exact rule i j t t' s _ _ hc ⟨.int (g i j), H, I.tok _, ⟨_, rfl⟩, q⟩
theorem opI0 {f : Value → Value → Sem Value} {g : Int → Int → Int}
    (rule : ∀ (i j : Int) (t u : Tok) (s : Shared) (Q : Value → Shared → Prop) (E : Value → Shared → Prop), Q (.int (g i j) s.toks) { s with toks := s.toks + 1 } → wpAny (model X.prog X.w) X.A (f (.int i t) (.int j u)) Q E s) :
    OpR X f (rI0 fun i j => .int (g i j)) := by
  intro pins s σ H x y v u Q I rx ry h
  obtain ⟨i, j, rfl, rfl, q⟩ := h
  obtain ⟨t, rfl⟩ := rx
  obtain ⟨t', rfl⟩ := ry
  exact rule i j t t' s _ _ ⟨.int (g i j), H, I.tok _, ⟨_, rfl⟩, q⟩
theorem opB0 {f : Value → Value → Sem Value} {g : Int → Int → Bool}
    (rule : ∀ (i j : Int) (t u : Tok) (s : Shared) (Q : Value → Shared → Prop) (E : Value → Shared → Prop), Q (.bool (g i j)) s → wpAny (model X.prog X.w) X.A (f (.int i t) (.int j u)) Q E s) :
    OpR X f (rI0 fun i j => .bl (g i j)) := by
  intro pins s σ H x y v u Q I rx ry h
  obtain ⟨i, j, rfl, rfl, q⟩ := h
  obtain ⟨t, rfl⟩ := rx
  obtain ⟨t', rfl⟩ := ry
  exact rule i j t t' s _ _ ⟨.bl (g i j), H, I, rfl, q⟩

def CDiv (i j : Int) : Prop := 0 < j ∧ j < 1073741824
def CPow (i j : Int) : Prop := 0 ≤ j ∧ j ≤ 1000000 ∧ i.natAbs < 2 ^ 64
def CMul (i j : Int) : Prop := (-(2 ^ 64) < i ∧ i < 2 ^ 64) ∨ (-(2 ^ 64) < j ∧ j < 2 ^ 64)
theorem CMul.ok {i j : Int} (h : CMul i j) : IntMulOk i j := by
  rcases h with ⟨h1, h2⟩ | ⟨h1, h2⟩
  · exact .of_left (intBits_le_64 h1 h2)
  · exact .of_right (intBits_le_64 h1 h2)
theorem two_pow_nn (k : Nat) : (0 : Int) ≤ 2 ^ k := by
  rw [two_pow_cast]
  exact Int.natCast_nonneg _

theorem op_add : OpR X (binaryOp .Add) (rI0 fun i j => .int (i + j)) := opI0 fun _ _ _ _ _ _ _ q => add_int q
theorem op_sub : OpR X (binaryOp .Sub) (rI0 fun i j => .int (i - j)) := opI0 fun _ _ _ _ _ _ _ q => sub_int q
theorem op_mul : OpR X (binaryOp .Mult) (rI CMul fun i j => .int (i * j)) := opI fun _ _ _ _ _ _ _ hc q => mul_int q hc.ok
/-- // by a positive divisor -/
theorem op_fdiv : OpR X (binaryOp .FloorDiv) (rI CDiv fun i j => .int (i / j)) := opI fun i j _ _ _ _ _ hc q => by
  have h1 : (0 : Int) < j := hc.1
  have h2 : j < 1073741824 := hc.2
  exact floordiv_int (by omega) (by rw [Int.fdiv_eq_ediv_of_nonneg i (by omega)]; exact q) (.inl (PyProof.noPylong_small (by omega)))
/-- % by a positive divisor of any size -/
theorem op_mod : OpR X (binaryOp .Mod) (rI (fun _ j => 0 < j) fun i j => .int (i % j)) := opI fun i j _ _ _ _ _ hc q => by
  have h1 : (0 : Int) < j := hc
  exact mod_int' (by omega) (by rw [Int.fmod_eq_emod_of_nonneg i (by omega)]; exact q)
theorem op_pow : OpR X (binaryOp .Pow) (rI CPow fun i j => .int (i ^ j.toNat)) := opI fun _ _ _ _ _ _ _ hc q => pow_int_small hc.1 hc.2.1 hc.2.2 q
theorem op_shl : OpR X (binaryOp .LShift) (rI CPow fun i j => .int (i * 2 ^ j.toNat)) := opI fun _ _ _ _ _ _ _ hc q => lshift_int_small hc.1 hc.2.1 hc.2.2 q
theorem op_shr : OpR X (binaryOp .RShift) (rI (fun _ j => 0 ≤ j) fun i j => .int (i / 2 ^ j.toNat)) := opI fun i j _ _ _ _ _ hc q =>
  rshift_int hc (by rw [Int.fdiv_eq_ediv_of_nonneg i (two_pow_nn _)]; exact q)
theorem op_and : OpR X (binaryOp .BitAnd) (rI0 fun i j => .int (Builtin.bitAnd i j)) := opI0 fun _ _ _ _ _ _ _ q => and_int q
theorem op_xor : OpR X (binaryOp .BitXor) (rI0 fun i j => .int (Builtin.bitXor i j)) := opI0 fun _ _ _ _ _ _ _ q => xor_int q

theorem unI {f : Value → Sem Value} {g : Int → Int}
    (rule : ∀ (i : Int) (t : Tok) (s : Shared) (Q : Value → Shared → Prop) (E : Value → Shared → Prop), Q (.int (g i) s.toks) { s with toks := s.toks + 1 } → wpAny (model X.prog X.w) X.A (f (.int i t)) Q E s) :
    UnR X f (rU fun i => .int (g i)) := by
  intro pins s σ H x v Q I rx h
  obtain ⟨i, rfl, q⟩ := h
  obtain ⟨t, rfl⟩ := rx
  exact rule i t s _ _ ⟨.int (g i), H, I.tok _, ⟨_, rfl⟩, q⟩
theorem un_neg : UnR X (unaryOp .USub) (rU fun i => .int (-i)) := unI fun _ _ _ _ _ q => neg_int q
/-! ### bools among ints: n += (a < b) -/
end

/-! ### comparisons -/
/-- the scalars that == tells apart as data does -/
def scal : V → V → Bool
  | .non, .non => true | .non, .int _ => true | .int _, .non => true | .non, .bl _ => true | .bl _, .non => true | .non, .str _ => true | .str _, .non => true
  | .int _, .int _ => true | .bl _, .bl _ => true | .str _, .str _ => true | .byt _, .byt _ => true
  | .int _, .str _ => true | .str _, .int _ => true | .bl _, .str _ => true | .str _, .bl _ => true
  | _, _ => false
def rEq : R2 := fun x y H Q => scal x y = true ∧ Q (.bl (decide (x = y))) H
def rNe : R2 := fun x y H Q => scal x y = true ∧ Q (.bl (!decide (x = y))) H

theorem dec_int {i j : Int} : decide (V.int i = V.int j) = (i == j) := by
  rw [Bool.eq_iff_iff]
  simp
theorem dec_bl {i j : Bool} : decide (V.bl i = V.bl j) = (i == j) := by
  rw [Bool.eq_iff_iff]
  simp
theorem dec_str {i j : Str} : decide (V.str i = V.str j) = (i == j) := by
  rw [Bool.eq_iff_iff]
  simp
theorem dec_byt {i j : Array UInt8} : decide (V.byt i = V.byt j) = (i.toList == j.toList) := by
  rw [Bool.eq_iff_iff]
  cases i
  cases j
  simp

section
variable {X : Cx} {a b c : Expr} {ta tb tc : TE} {pos : Pos}
theorem fin_bl {pins : List (Addr × Obj)} {σ : St} {H : Hp} {s : Shared} {Q : VK} {k k' : Bool} (I : Inv X pins σ H s) (q : Q (.bl k) H) (e : k = k') : EP X pins σ Q (.bool k') s := by
  subst e
  exact ⟨.bl k, H, I, rfl, q⟩
theorem op_eq : OpR X (compareOp .Eq) rEq := by
  intro pins s σ H x y v u Q I rx ry h
  obtain ⟨hs, q⟩ := h
  cases x with
  | non =>
    cases rx
    cases y with
    | non => cases ry; exact PySem.EqNone.eq_none_none (fin_bl I q (by simp))
    | bl j => cases ry; exact PySem.EqNone.eq_none_bool (fin_bl I q (by simp))
    | int j => obtain ⟨t', rfl⟩ := ry; exact PySem.EqNone.eq_none_int (fin_bl I q (by simp))
    | str j => obtain ⟨t', rfl⟩ := ry; exact PySem.EqNone.eq_none_str (fin_bl I q (by simp))
    | _ => exact absurd (show false = true from hs) Bool.false_ne_true
  | bl i =>
    cases rx
    cases y with
    | non => cases ry; exact PySem.EqNone.eq_bool_none (fin_bl I q (by simp))
    | bl j => cases ry; exact eq_bool (fin_bl I q dec_bl)
    | str j => obtain ⟨t', rfl⟩ := ry; exact PySem.EqMixed.eq_bool_str (fin_bl I q (by simp))
    | _ => exact absurd (show false = true from hs) Bool.false_ne_true
  | int i =>
    obtain ⟨t, rfl⟩ := rx
    cases y with
    | non => cases ry; exact PySem.EqNone.eq_int_none (fin_bl I q (by simp))
    | int j => obtain ⟨t', rfl⟩ := ry; exact eq_int (fin_bl I q dec_int)
    | str j => obtain ⟨t', rfl⟩ := ry; exact PySem.EqMixed.eq_int_str (fin_bl I q (by simp))
    | _ => exact absurd (show false = true from hs) Bool.false_ne_true
  | str i =>
    obtain ⟨t, rfl⟩ := rx
    cases y with
    | non => cases ry; exact PySem.EqNone.eq_str_none (fin_bl I q (by simp))
    | bl j => cases ry; exact PySem.EqMixed.eq_str_bool (fin_bl I q (by simp))
    | int j => obtain ⟨t', rfl⟩ := ry; exact PySem.EqMixed.eq_str_int (fin_bl I q (by simp))
    | str j => obtain ⟨t', rfl⟩ := ry; exact eq_str (fin_bl I q dec_str)
    | _ => exact absurd (show false = true from hs) Bool.false_ne_true
  | byt i =>
    obtain ⟨t, rfl⟩ := rx
    cases y with
    | byt j => obtain ⟨t', rfl⟩ := ry; exact PySem.W.eq_bytes (fin_bl I q dec_byt)
    | _ => exact absurd (show false = true from hs) Bool.false_ne_true
  | _ => cases y <;> exact absurd (show false = true from hs) Bool.false_ne_true
theorem op_ne : OpR X (compareOp .NotEq) rNe := by
  intro pins s σ H x y v u Q I rx ry h
  obtain ⟨hs, q⟩ := h
  cases x with
  | non =>
    cases rx
    cases y with
    | non => cases ry; exact PySem.EqNone.ne_none_none (fin_bl I q (by simp))
    | bl j => cases ry; exact PySem.EqNone.ne_none_bool (fin_bl I q (by simp))
    | int j => obtain ⟨t', rfl⟩ := ry; exact PySem.EqNone.ne_none_int (fin_bl I q (by simp))
    | str j => obtain ⟨t', rfl⟩ := ry; exact PySem.EqNone.ne_none_str (fin_bl I q (by simp))
    | _ => exact absurd (show false = true from hs) Bool.false_ne_true
  | bl i =>
    cases rx
    cases y with
    | non => cases ry; exact PySem.EqNone.ne_bool_none (fin_bl I q (by simp))
    | bl j => cases ry; exact ne_bool (fin_bl I q (congrArg not dec_bl))
    | str j => obtain ⟨t', rfl⟩ := ry; exact PySem.EqMixed.ne_bool_str (fin_bl I q (by simp))
    | _ => exact absurd (show false = true from hs) Bool.false_ne_true
  | int i =>
    obtain ⟨t, rfl⟩ := rx
    cases y with
    | non => cases ry; exact PySem.EqNone.ne_int_none (fin_bl I q (by simp))
    | int j => obtain ⟨t', rfl⟩ := ry; exact ne_int (fin_bl I q (congrArg not dec_int))
    | str j => obtain ⟨t', rfl⟩ := ry; exact PySem.EqMixed.ne_int_str (fin_bl I q (by simp))
    | _ => exact absurd (show false = true from hs) Bool.false_ne_true
  | str i =>
    obtain ⟨t, rfl⟩ := rx
    cases y with
    | non => cases ry; exact PySem.EqNone.ne_str_none (fin_bl I q (by simp))
    | bl j => cases ry; exact PySem.EqMixed.ne_str_bool (fin_bl I q (by simp))
    | int j => obtain ⟨t', rfl⟩ := ry; exact PySem.EqMixed.ne_str_int (fin_bl I q (by simp))
    | str j => obtain ⟨t', rfl⟩ := ry; exact ne_str (fin_bl I q (congrArg not dec_str))
    | _ => exact absurd (show false = true from hs) Bool.false_ne_true
  | byt i =>
    obtain ⟨t, rfl⟩ := rx
    cases y with
    | byt j => obtain ⟨t', rfl⟩ := ry; exact PySem.W.ne_bytes (fin_bl I q (congrArg not dec_byt))
    | _ => exact absurd (show false = true from hs) Bool.false_ne_true
  | _ => cases y <;> exact absurd (show false = true from hs) Bool.false_ne_true

theorem op_lt : OpR X (compareOp .Lt) (rI0 fun i j => .bl (decide (i < j))) := opB0 fun _ _ _ _ _ _ _ q => lt_int q
theorem op_le : OpR X (compareOp .LtE) (rI0 fun i j => .bl (decide (i ≤ j))) := opB0 fun _ _ _ _ _ _ _ q => le_int q
theorem op_gt : OpR X (compareOp .Gt) (rI0 fun i j => .bl (decide (j < i))) := opB0 fun _ _ _ _ _ _ _ q => gt_int q
theorem nomark (b : Expr) {op : CmpOp} (h : op ≠ .In := by decide) (h2 : op ≠ .NotIn := by decide) : behindInMarks op b = false := by
  have e1 : (op == CmpOp.In) = false := by cases op <;> first | rfl | exact absurd rfl h
  have e2 : (op == CmpOp.NotIn) = false := by cases op <;> first | rfl | exact absurd rfl h2
  cases b <;> simp [behindInMarks, e1, e2]
/-- a comparison as a value; hm: nomark b, or (for in, not in) by with_unfolding_all rfl -/
theorem pe_cmpR {op : CmpOp} {r : R2} (ho : OpR X (compareOp op) r) (ha : PE X a ta) (hb : PE X b tb) (hm : behindInMarks op b = false) : PE X (.Compare a [op] [b] pos) (tOp r ta tb) := by
  intro pins s σ H Q I h
  exact wpAny_Compare1 (binT ha hb I h fun v u s2 x y H2 I2 rx ry q => ho pins s2 σ H2 x y v u Q I2 rx ry q) hm
/-- a reading of a value as a test -/
def tTest (t : TE) : TT := fun σ H Q => t σ H fun x H' => ∃ k, x = .bl k ∧ Q k H'
theorem pt_cmpR {op : CmpOp} {r : R2} (ho : OpR X (compareOp op) r) (ha : PE X a ta) (hb : PE X b tb) (hm : behindInMarks op b = false) : PT X (.Compare a [op] [b] pos) (tTest (tOp r ta tb)) := by
  intro pins s σ H Q I h
  refine wpAny_isTrue_Compare1 (thn (ha pins s σ H _ I h) fun v s1 ⟨x, H1, I1, r1, q1⟩ => thn (hb pins s1 σ H1 _ I1 q1) fun u s2 ⟨y, H2, I2, r2, q2⟩ =>
    thn (ho pins s2 σ H2 x y v u _ I2 r1 r2 q2) fun c s3 ⟨z, H3, I3, r3, k, e, q3⟩ => ?_) hm
  subst e
  cases r3
  exact wpAny_truthy_bool ⟨H3, I3, q3⟩
/-- a op1 b op2 c -/
def tChain (r r' : R2) (ta tb tc : TE) : TE := fun σ H Q => ta σ H fun x H1 => tb σ H1 fun y H2 => r x y H2 fun z H3 => ∃ k, z = .bl k ∧
  (if k = true then tc σ H3 fun w' H4 => r' y w' H4 Q else Q (.bl false) H3)
theorem pt_chain {op op' : CmpOp} {r r' : R2} (ho : OpR X (compareOp op) r) (ho' : OpR X (compareOp op') r') (ha : PE X a ta) (hb : PE X b tb) (hc : PE X c tc)
    (hm : lastMarks [op, op'] [b, c] = false := by with_unfolding_all rfl) : PT X (.Compare a [op, op'] [b, c] pos) (tTest (tChain r r' ta tb tc)) := by
  intro pins s σ H Q I h
  refine isTrue_chain (thn (ha pins s σ H _ I h) fun v s1 ⟨x, H1, I1, r1, q1⟩ => test_link (thn (hb pins s1 σ H1 _ I1 q1) fun u s2 ⟨y, H2, I2, r2, q2⟩ =>
    thn (ho pins s2 σ H2 x y v u _ I2 r1 r2 q2) fun d s3 ⟨z, H3, I3, r3, k, e, q3⟩ => ?_)) hm
  subst e
  cases r3
  refine wpAny_truthy_bool ?_
  cases k with
  | false =>
    obtain ⟨k', e', q'⟩ := q3
    cases e'
    exact ite_ff ⟨H3, I3, q'⟩
  | true =>
    refine ite_tt (test_last (thn (hc pins s3 σ H3 _ I3 q3) fun w' s4 ⟨z', H4, I4, r4, q4⟩ => thn (ho' pins s4 σ H4 y z' u w' _ I4 r2 r4 q4) fun d' s5 ⟨z2, H5, I5, r5, k2, e2, q5⟩ => ?_))
    subst e2
    cases r5
    exact wpAny_truthy_bool ⟨H5, I5, q5⟩

/-! ### truth -/
theorem line63 : (sizeLine : Nat) < 2 ^ 63 := by rw [sizeLine_eq]; decide
/-! ### strs and bytes -/
/-! ### scalar builtins, by CallR -/
theorem vals1 {x : V} {us : List Value} (r : Vals [x] us) : ∃ u, us = [u] ∧ RelV x u := by
  cases r with
  | cons r1 r2 => cases r2; exact ⟨_, rfl, r1⟩
theorem vals2 {x y : V} {us : List Value} (r : Vals [x, y] us) : ∃ u w', us = [u, w'] ∧ RelV x u ∧ RelV y w' := by
  cases r with
  | cons r1 r2 =>
    cases r2 with
    | cons r3 r4 => cases r4; exact ⟨_, _, rfl, r1, r3⟩
theorem call_min2 (hc : X.calm = true) : CallR X (.builtin "min") (fun xs H Q => ∃ i j, xs = [.int i, .int j] ∧ Q (.int (if j < i then j else i)) H) := by
  intro pins s σ H xs us Q I r h
  obtain ⟨i, j, rfl, q⟩ := h
  obtain ⟨u, w', rfl, ⟨t, rfl⟩, ⟨t', rfl⟩⟩ := vals2 r
  refine min_two_ints (I.ok.hd hc) fun h' tk k => ⟨_, H, I.kept k, ?_, q⟩
  by_cases hj : j < i
  · rw [if_pos hj, if_pos hj]; exact ⟨_, rfl⟩
  · rw [if_neg hj, if_neg hj]; exact ⟨_, rfl⟩
end
end L2

namespace L2
open PySem PySem.Spec PyProof.Rows

/-! ### an instance, its attributes a map -/
structure ObjM (h : Heap) (x dx C : Addr) (mA : Str → Option Value) : Prop where
  obj : h.get? x = some (PySem.W.instObj C dx)
  ns : h.Ns1 dx mA
  ne : dx ≠ x

theorem lookIn_ns {h : Heap} {dx : Addr} {mA : Str → Option Value} (n : h.Ns1 dx mA) : ∃ od, h.get? dx = some od ∧ ∀ name, PySem.W.lookIn name od = some (mA name) := by
  obtain ⟨o, es, ep, ho, hd, hk, _, hm⟩ := n
  refine ⟨o, ho, fun name => ?_⟩
  have e := hm name
  unfold nsFind findBy at e
  rw [← Array.find?_toList] at e
  unfold PySem.W.lookIn
  rw [hd]
  dsimp only
  split
  · rename_i y q
    rw [q] at e
    exact congrArg some e
  · rename_i q
    rw [q] at e
    have a : es.toList.any (·.refKey) = false := by
      rw [List.any_eq_false]
      intro y hy
      obtain ⟨z, t, hkey⟩ := hk y (Array.mem_toList_iff.mp hy)
      simp [DictEntry.refKey, hkey]
    have a' : ¬ es.toList.any (·.refKey) = true := by rw [a]; exact Bool.false_ne_true
    rw [if_neg a']
    exact congrArg some e

theorem ObjM.look {h : Heap} {x dx C : Addr} {mA : Str → Option Value} (I : ObjM h x dx C mA) : ∃ od, PySem.W.InstAt h x (PySem.W.instObj C dx) C (some od) ∧ ∀ name, PySem.W.lookIn name od = some (mA name) :=
  let ⟨od, ho, hl⟩ := lookIn_ns I.ns
  ⟨od, ⟨I.obj, rfl, rfl, ho⟩, hl⟩

section
variable {prog : Program} {w : World} {A : Around} {E : Value → Shared → Prop} {s : Shared} {K : PySem.W.Frag} {x dx C f : Addr} {mA : Str → Option Value} {name : Str} {v : Value}

end

/-! ### the attributes as a list of pairs -/
section
variable {P : Program} {w : World} {H H' : Hp} {h h' : Heap} {a C dx : Addr} {fs fs' : List (Str × V)}
theorem ins_get (hok : HOk P w H h) (e : H a = some (.ins C dx fs)) : ∃ mA, ObjM h a dx C mA ∧ (∀ f, RelO (fs.lookup f) (mA f)) ∧ PySem.Within mA (fs.map (·.1)) ∧ fs.length ≤ 1000 ∧ H dx = some (.own a) := by
  obtain ⟨d, z, ne, ob, mA, n, r, q⟩ := (show ObjOk P w H h a (.ins C dx fs) from hok a _ e)
  exact ⟨mA, ⟨ob, n, ne⟩, r, q, z, d⟩
end

/-! ### what of the text a class must have -/
structure Cls (K : PySem.W.Frag) (C : Addr) : Prop where
  pg : PySem.W.plainGet K C Str.empty = true
  hd : PySem.W.hasDictIn K C = true
  po : PySem.W.plainOver K C = true
  sa : PySem.W.findIn K (.ref C) "__setattr__" = some (some (.builtin "object.__setattr__"))
theorem Cls.get {K : PySem.W.Frag} {C : Addr} (c : Cls K C) (f : Str) : PySem.W.plainGet K C f = true := c.pg
section
variable {X : Cx} {pins : List (Addr × Obj)} {σ : St} {H : Hp} {s : Shared} {a C dx : Addr} {fs : List (Str × V)} {f : Str} {v : V} {A : Around} {E : Value → Shared → Prop}

end

/-! ### readings and rules -/
section
variable {X : Cx} {o e value : Expr} {f : Str} {pos pos' tpos : Pos} {ta tv : TE}
end

/-! ### isinstance -/
section
variable {X : Cx} {pins : List (Addr × Obj)} {σ : St} {H : Hp} {s : Shared} {A : Around} {E : Value → Shared → Prop} {Q : Value → Shared → Prop} {c : Value} {b : Bool}
/-- the type of a value, as the fragment's deciders take it; for an instance its class -/
inductive TyOf (K : PySem.W.Frag) (H : Hp) : V → Value → Prop where
  | non : TyOf K H .non (.type "NoneType")
  | bl (x : Bool) : TyOf K H (.bl x) (.type "bool")
  | int (i : Int) : TyOf K H (.int i) (.type "int")
  | str (x : Str) : TyOf K H (.str x) (.type "str")
  | flt (x : UInt64) : TyOf K H (.flt x) (.type "float")
  | lst {a : Addr} {xs : List V} (e : H a = some (.lst xs)) : TyOf K H (.ref a) (.type "list")
  | frz {a : Addr} {o : Obj} {xs : List V} (e : H a = some (.frz o (.lst xs))) : TyOf K H (.ref a) (.type "list")
  | tup {a : Addr} {xs : List V} (e : H a = some (.tup xs)) : TyOf K H (.ref a) (.type "tuple")
  | dK {a : Addr} {kvs : List (Key × V)} (e : H a = some (.dK kvs)) : TyOf K H (.ref a) (.type "dict")
  | dT {a : Addr} {kvs : List (List Key × V)} (e : H a = some (.dT kvs)) : TyOf K H (.ref a) (.type "dict")
  | ins {a C dx : Addr} {fs : List (Str × V)} (e : H a = some (.ins C dx fs)) (cl : Cls K C) (ha : PySem.W.findIn K (.ref C) "__class__" = some (some (.builtin "object.__class__")))
      (hn : PySem.W.specialIn K (.builtin "object.__class__") "__get__" = some (some (.builtin "getset_descriptor.__get__"))) (htk : PySem.W.takesIn K (.builtin "object.__class__") = some true)
      (hm : PySem.W.mroIn K C (.type "object") = some true) : TyOf K H (.ref a) (.ref C)
/-- isinstance(x, c) for one class c, a built-in or an own one: kitOne's answer -/
theorem isinst_ok {x : V} {u t : Value} (I : Inv X pins σ H s) (rx : RelV x u) (ty : TyOf X.K H x t) (e : PySem.W.kitOne X.K t c = some b) (h : ∀ tk, Q (.bool b) { s with toks := tk }) :
    wpAny (model X.prog X.w) A (call (.builtin "isinstance") [u, c]) Q E s := by
  cases ty with
  | non => cases (show u = Value.none from rx); exact PySem.W.kia_one PySem.W.kitx_none I.kIn True.intro e (fun z => nomatch z) h
  | bl y => cases (show u = Value.bool y from rx); exact PySem.W.kia_one PySem.W.kitx_bool I.kIn True.intro e (fun z => nomatch z) h
  | int i => obtain ⟨t, q⟩ := (show ∃ t, u = Value.int i t from rx); cases q; exact PySem.W.kia_one PySem.W.kitx_int I.kIn True.intro e (fun z => nomatch z) h
  | str y => obtain ⟨t, q⟩ := (show ∃ t, u = Value.str y t from rx); cases q; exact PySem.W.kia_one PySem.W.kitx_str I.kIn True.intro e (fun z => nomatch z) h
  | flt y => obtain ⟨t, q⟩ := (show ∃ t, u = Value.float y t from rx); cases q; exact PySem.W.kia_one PySem.W.kitx_float I.kIn True.intro e (fun z => nomatch z) h
  | @lst a xs ea =>
    cases (show u = Value.ref a from rx)
    obtain ⟨_, _, n, _, h1⟩ := (show ObjOk X.prog X.w H s.heap a (.lst xs) from I.hok a _ ea)
    exact PySem.W.kia_one PySem.W.kitx_list I.kIn ⟨_, h1, rfl⟩ e (fun z => nomatch z) h
  | @frz a ob xs ea =>
    cases (show u = Value.ref a from rx)
    obtain ⟨_, _, _, n, _, h1⟩ := (show ObjOk X.prog X.w H s.heap a (.frz ob (.lst xs)) from I.hok a _ ea)
    exact PySem.W.kia_one PySem.W.kitx_list I.kIn ⟨_, h1, rfl⟩ e (fun z => nomatch z) h
  | @tup a xs ea =>
    cases (show u = Value.ref a from rx)
    obtain ⟨_, _, _, p⟩ := (show ObjOk X.prog X.w H s.heap a (.tup xs) from I.hok a _ ea)
    obtain ⟨o, h1, h2, _⟩ := p
    exact PySem.W.kia_one PySem.W.kitx_tuple I.kIn ⟨o, h1, h2⟩ e (fun z => nomatch z) h
  | @dK a kvs ea =>
    cases (show u = Value.ref a from rx)
    obtain ⟨_, _, vs, _, p⟩ := (show ObjOk X.prog X.w H s.heap a (.dK kvs) from I.hok a _ ea)
    obtain ⟨o, es, ep, h1, h2, _⟩ := p
    exact PySem.W.kia_one PySem.W.kitx_dict I.kIn ⟨o, h1, h2.1⟩ e (fun z => nomatch z) h
  | @dT a kvs ea =>
    cases (show u = Value.ref a from rx)
    obtain ⟨_, _, xs, _, o, es, ep, h1, h2, _⟩ := (show ObjOk X.prog X.w H s.heap a (.dT kvs) from I.hok a _ ea)
    exact PySem.W.kia_one PySem.W.kitx_dict I.kIn ⟨o, h1, h2.1⟩ e (fun z => nomatch z) h
  | @ins a C dx fs ea cl ha hn htk hm =>
    cases (show u = Value.ref a from rx)
    obtain ⟨mA, O, _⟩ := ins_get I.hok ea
    obtain ⟨od, J, _⟩ := O.look
    exact PySem.W.kia_one (PySem.W.kitx_own (cl.get _) cl.hd ha hn htk hm) I.kIn J e (fun z => nomatch z) h
end
end L2

namespace L2
open PySem PySem.Spec PyProof.Rows

/-! ### room -/
structure Room (k : Nat) (A : Around) : Prop where
  hd : A.handled = none
  dp : A.depth + 3 * k + 5 < recursionLimit
  un : A.units + 16 * k + 200 < cLine
theorem Room.mono {j k : Nat} {A : Around} (r : Room k A) (h : j ≤ k) : Room j A := ⟨r.hd, by have := r.dp; omega, by have := r.un; omega⟩
theorem Room.deeper {k : Nat} {A : Around} (r : Room (k + 1) A) (env : Env) : Room k (A.deeper env) :=
  ⟨r.hd, by have := r.dp; show A.depth + 1 + 3 * k + 5 < _; omega, by have := r.un; show A.units + 3 + 16 * k + 200 < _; omega⟩
theorem Room.depth {k : Nat} {A : Around} (r : Room k A) : A.depth < recursionLimit := by have := r.dp; omega
theorem Room.units {k : Nat} {A : Around} (r : Room k A) : A.units + 64 < cLine := by have := r.un; omega
/-! ### argument lists and displays -/
def tNil : TA := fun _ H Q => Q [] H
def tCons (ta : TE) (tr : TA) : TA := fun σ H Q => ta σ H fun x H1 => tr σ H1 fun xs H2 => Q (x :: xs) H2
section
variable {X : Cx} {e : Expr} {es : List Expr} {te : TE} {t : TA} {pos : Pos}
theorem pa_nil : PA X [] tNil := fun _ _ _ _ H Q I h => Calls.spliced_nil ⟨[], H, I, .nil, h⟩
theorem pa_cons (ha : PE X e te) (hr : PA X es t) (hs : starEach (e :: es) X.env = (false, eval e X.env) :: starEach es X.env := by rfl) : PA X (e :: es) (tCons te t) := by
  intro pos pins s σ H Q I h
  rw [hs]
  show wpAny _ _ (spliced ((false, eval e X.env) :: backTo pos (starEach es X.env))) _ _ s
  refine Calls.spliced_cons (thn (ha pins s σ H _ I h) fun u s1 ⟨x, H1, I1, r1, q1⟩ => ?_)
  exact thn (hr pos pins s1 σ H1 _ I1 q1) fun us s2 ⟨xs, H2, I2, r2, q2⟩ => ⟨x :: xs, H2, I2, .cons r1 r2, q2⟩

/-- a tuple, a list of written items -/
def tTup (t : TA) : TE := fun σ H Q => t σ H fun xs H1 => xs.length ≤ sizeLine ∧ ∀ p, H1 p = none → Q (.ref p) (upd H1 p (.tup xs))
def tLst (t : TA) : TE := fun σ H Q => t σ H fun xs H1 => xs.length ≤ sizeLine ∧ ∀ p, H1 p = none → Q (.ref p) (upd H1 p (.lst xs))
theorem pe_tup {x1} (h : PA X es t) : PE X (.Tuple es x1 pos) (tTup t) := by
  intro pins s σ H Q I hq
  refine wpAny_Tuple_spliced (thn (h pos pins s σ H _ I hq) fun us s1 ⟨xs, H1, I1, r, z, q⟩ => ⟨by rw [← r.length]; exact z, ?_⟩)
  have hf : H1 s1.heap.objs.size = none := I1.hok.fresh (Nat.le_refl _)
  refine ⟨.ref s1.heap.objs.size, upd H1 s1.heap.objs.size (.tup xs), I1.laid (t' := s1.toks) (fun b u e => Heap.get?_push_of_some _ e) (Nat.le_refl _) ?_, rfl, q _ hf⟩
  exact ⟨z, us, r, ⟨_, Heap.get?_push_size _ rfl, rfl, _, rfl⟩⟩
theorem pe_lst (h : PA X es t) : PE X (.List es pos) (tLst t) := by
  intro pins s σ H Q I hq
  refine wpAny_List_spliced (thn (h pos pins s σ H _ I hq) fun us s1 ⟨xs, H1, I1, r, z, q⟩ => ⟨by rw [← r.length]; exact z, ?_⟩)
  have hf : H1 s1.heap.objs.size = none := I1.hok.fresh (Nat.le_refl _)
  refine ⟨.ref s1.heap.objs.size, upd H1 s1.heap.objs.size (.lst xs), I1.laid (t' := s1.toks) (fun b u e => Heap.get?_push_of_some _ e) (Nat.le_refl _) ?_, rfl, q _ hf⟩
  exact ⟨z, us, 0, r, Heap.get?_push_size _ rfl⟩
end

/-! ### what a def promises -/
/-- a def's promise: the bound arguments in the parameters' order, the heap, the wanted end, the wanted exception -/
abbrev Sp := List V → Hp → VK → XK → Prop
/-- how an exception lies behind a call (file 08 gives it): the callers' frames, abstract heap and state ahead of the call, the wish, the exception, the state -/
abbrev CXT := List Env → Hp → Shared → XK → Value → Shared → Prop

/-- the state at a call -/
structure Env0 (P : Program) (w : World) (K : PySem.W.Frag) (mg : Str → Option Value) (base : Heap) (A : Around) (outer : List Env) (s : Shared) (H : Hp) : Prop where
  frames : A.frames = some outer
  mod : Mod K mg base
  bs : ∀ b o, base.get? b = some o → s.heap.get? b = some o ∧ H b = none
  bsz : base.objs.size ≤ s.heap.objs.size
  funs : s.heap.FunFrames base outer
  frf : ∀ b ∈ frs outer, H b = none
  hok : HOk P w H s.heap
  bare : AllBare s.gens
/-- a call's end -/
def CE (outer : List Env) (P : Program) (w : World) (H : Hp) (s : Shared) (Q : VK) (u : Value) (s' : Shared) : Prop :=
  ∃ v H', s'.os = s.os ∧ AllBare s'.gens ∧ Un (frs outer) [] H H' s.heap s'.heap ∧ HOk P w H' s'.heap ∧ RelV v u ∧ Q v H'
def CR (CX : CXT) (outer : List Env) (P : Program) (w : World) (H : Hp) (s : Shared) (Q : VK) (E : XK) (r : Result) (s' : Shared) : Prop :=
  match r with
  | .ok (.ret u) => CE outer P w H s Q u s'
  | .ok _ => False
  | .error e => CX outer H s E e s'
structure FnOk (P : Program) (w : World) (K : PySem.W.Frag) (mg : Str → Option Value) (base : Heap) (CX : CXT) (k : Nat) (f : Addr) (fd : FuncData) (ps : List Str) (sp : Sp) : Prop where
  len : ∀ vs H Q E, sp vs H Q E → vs.length = ps.length
  run : ∀ (A : Around) (outer : List Env) (s : Shared) (H : Hp) (args : Args) (us : List Value) (vs : List V) (Q : VK) (E : XK), Room k A → Env0 P w K mg base A outer s H → BindsTo s fd args (ps.zip us) → Vals vs us → sp vs H Q E →
    codeAny (model P w) A (.call (.ref f) args) (CR CX outer P w H s Q E) s
theorem FnOk.mono {P : Program} {w : World} {K : PySem.W.Frag} {mg : Str → Option Value} {base : Heap} {CX : CXT} {j k : Nat} {f : Addr} {fd : FuncData} {ps : List Str} {sp : Sp} (F : FnOk P w K mg base CX j f fd ps sp) (h : j ≤ k) :
    FnOk P w K mg base CX k f fd ps sp := ⟨F.len, fun A outer s H args us vs Q E hr => F.run A outer s H args us vs Q E (hr.mono h)⟩
section
variable {X : Cx} {pins : List (Addr × Obj)} {σ : St} {H : Hp} {s s' : Shared}
/-- from a body: what a callee wants -/
theorem Inv.env0 (I : Inv X pins σ H s) : Env0 X.prog X.w X.K X.mg X.base X.A X.stack s H :=
  ⟨I.ok.frames, I.ok.mod, I.bs, Nat.le_trans I.ok.bsz I.sz, I.stack, I.stkFree, I.hok, I.bare⟩
/-- behind a call -/
theorem Inv.after {Q : VK} {u : Value} (I : Inv X pins σ H s) (h : CE X.stack X.prog X.w H s Q u s') : EP X pins σ Q u s' := by
  obtain ⟨v, H', os, bare, un, hok, r, q⟩ := h
  obtain ⟨hh, g, d, t, os'⟩ := s'
  obtain rfl : os' = s.os := os
  exact ⟨v, H', I.call (h' := hh) (g' := g) (d' := d) (t' := t) (ch := []) un hok bare (fun b z => absurd z (by simp)), r, q⟩
end

/-! ### calls -/
/-- f(..): the written arguments, then the defaults dvs; E: what is wanted of an exception -/
def tCall (sp : Sp) (dvs : List V) (E : XK) (t : TA) : TE := fun σ H Q => t σ H fun vs H1 => sp (vs ++ dvs) H1 Q E
/-- how the parameters are bound: us the positional arguments, kw the keywords' values by name, ds the defaults that fill up -/
def Binds (K : PySem.W.Frag) (fd : FuncData) (ps : List Str) (ds : List Value) : Prop :=
  ∀ (s : Shared) (us : List Value), K.In s.heap → (us ++ ds).length = ps.length → BindsTo s fd ⟨us, []⟩ (ps.zip (us ++ ds))
/-- every parameter is given -/
theorem Binds.all {K : PySem.W.Frag} {fd : FuncData} {ps : List Str} (h : ∀ us : List Value, us.length = ps.length → bindArgs fd ⟨us, []⟩ = pure (ps.zip us)) : Binds K fd ps [] := fun s us _ hl => by
  rw [List.append_nil] at hl ⊢
  exact .of_eq (h us hl)

/-- an exception of a callee reaches what this body wants of exceptions -/
def Passes (CX : CXT) (X : Cx) (E : XK) : Prop := ∀ (pins : List (Addr × Obj)) (σ : St) (H : Hp) (s : Shared) (e : Value) (s' : Shared), Inv X pins σ H s → CX X.stack H s E e s' → X.xe e s'

section
variable {X : Cx} {CX : CXT} {k : Nat} {f C : Addr} {fd : FuncData} {ps : List Str} {sp : Sp} {dvs : List V} {ds : List Value} {E : XK} {x m : Str} {p pos apos : Pos} {e o : Expr} {es : List Expr} {ta : TE} {t : TA}

/-- the callee runs -/
theorem run_fn {pins : List (Addr × Obj)} {σ : St} {H : Hp} {s : Shared} {Q : VK} {us : List Value} {vs : List V} (F : FnOk X.prog X.w X.K X.mg X.base CX k f fd ps sp) (hr : Room k X.A) (hb : Binds X.K fd ps ds) (hd : Vals dvs ds) (hx : Passes CX X E)
    (I : Inv X pins σ H s) (r : Vals vs us) (h : sp (vs ++ dvs) H Q E) : wpAny (model X.prog X.w) X.A (call (.ref f) us) (EP X pins σ Q) X.xe s := by
  have r2 : Vals (vs ++ dvs) (us ++ ds) := r.append hd
  have hl : (us ++ ds).length = ps.length := by rw [← r2.length]; exact F.len _ _ _ _ h
  refine wpAny_call (codeAny_mono (F.run X.A X.stack s H ⟨us, []⟩ (us ++ ds) (vs ++ dvs) Q E hr I.env0 (hb s us I.kIn hl) r2 h) fun r s' hq => ?_)
  cases r with
  | error e => exact hx pins σ H s e s' I hq
  | ok fl =>
    cases fl with
    | ret u => exact I.after hq
    | next => exact False.elim hq
    | brk => exact False.elim hq
    | cont => exact False.elim hq

theorem pe_call (F : FnOk X.prog X.w X.K X.mg X.base CX k f fd ps sp) (hr : Room k X.A) (hg : Gl X x) (hm : X.mg x = some (.ref f)) (hk : PySem.W.keepIn X.K (.ref f) = true) (hb : Binds X.K fd ps ds) (hd : Vals dvs ds) (hx : Passes CX X E)
    (ha : PA X (e :: es) t) (hdb : (x == ("__debug__" : Str)) = false := by decide) (he : starEach (e :: es) X.env = (false, eval e X.env) :: starEach es X.env := by rfl) (hpl : (backTo pos (starEach es X.env)).any (·.1) = false := by rfl) :
    PE X (.Call (.Name x p) (e :: es) [] pos) (tCall sp dvs E t) := by
  intro pins s σ H Q I h
  refine wpAny_Call_Name_kw (ld_glob I hg hm ?_ hdb)
  refine PySem.W.callWith_K (h₀ := X.base) I.ok.mod.kin hk (thn (ha pos pins s σ H _ I h) fun us s1 ⟨vs, H1, I1, r, q⟩ => ⟨I1.kIn, ?_⟩) he hpl
  exact run_fn F hr hb hd hx I1 r q
end

/-! ### keywords -/
section
variable {X : Cx} {CX : CXT} {k : Nat} {f C : Addr} {fd : FuncData} {ps ks : List Str} {sp : Sp} {E : XK} {x m : Str} {p pos apos kpos : Pos} {e o : Expr} {es : List Expr} {kws : List Keyword} {te ta : TE} {t tk : TA} {nm : Option Str}
variable {g : List Value → List Value → List Value} {gV : List V → List V → List V}
end

/-! ### a def's body keeps its promise -/
/-- names: the parameters first -/
structure FnScope (N P : List Str) (sc : Scope) : Prop where
  kind : sc.kind = .function
  co : sc.isCoroutine = false
  gen : sc.isGenerator = false
  nd : N.Nodup
  pre : N.take P.length = P
  par : ∀ x ∈ P, sc.names.lookup x = some .local ∨ sc.names.lookup x = some .cell
  nofree : ∀ y ∈ sc.names, y.2 ≠ .free

theorem bindL_out {kindOf : Str → Option NameKind} {x : Str} : ∀ {binds : List (Str × Value)} {m : Str → Option Value}, (∀ v, (x, v) ∉ binds) → bindL kindOf binds m x = m x
  | [], _, _ => rfl
  | (n, v) :: r, m, h => by
    unfold bindL
    rw [bindL_out fun w hw => h w (List.mem_cons_of_mem _ hw)]
    split
    · have : x ≠ n := by rintro rfl; exact h v List.mem_cons_self
      simp [this]
    · rfl
theorem bindC_out {kindOf : Str → Option NameKind} {x : Str} : ∀ {binds : List (Str × Value)} {m : Str → Option Value}, (∀ v, (x, v) ∉ binds) → bindC kindOf binds m x = m x
  | [], _, _ => rfl
  | (n, v) :: r, m, h => by
    unfold bindC
    rw [bindC_out fun w hw => h w (List.mem_cons_of_mem _ hw)]
    split
    · rfl
    · have : x ≠ n := by rintro rfl; exact h v List.mem_cons_self
      simp [this]
theorem bindL_get {kindOf : Str → Option NameKind} {x : Str} {v : Value} : ∀ {P : List Str} {vs : List Value} {i : Nat} {m : Str → Option Value}, P.Nodup → P[i]? = some x → vs[i]? = some v → kindOf x = some .local →
    bindL kindOf (P.zip vs) m x = some v
  | [], _, _, _, _, h, _, _ => by simp at h
  | _ :: _, [], _, _, _, _, h, _ => by simp at h
  | p :: P, w :: vs, 0, m, nd, h1, h2, hk => by
    simp at h1 h2; subst h1; subst h2
    show bindL kindOf ((p, w) :: P.zip vs) m p = _
    unfold bindL
    rw [bindL_out fun v hv => (List.nodup_cons.mp nd).1 (List.of_mem_zip hv).1, if_pos hk]
    simp
  | p :: P, w :: vs, i + 1, m, nd, h1, h2, hk => by
    show bindL kindOf ((p, w) :: P.zip vs) m x = _
    unfold bindL
    exact bindL_get (i := i) (List.nodup_cons.mp nd).2 (by simpa using h1) (by simpa using h2) hk
theorem bindC_get {kindOf : Str → Option NameKind} {x : Str} {v : Value} : ∀ {P : List Str} {vs : List Value} {i : Nat} {m : Str → Option Value}, P.Nodup → P[i]? = some x → vs[i]? = some v → kindOf x ≠ some .local →
    bindC kindOf (P.zip vs) m x = some v
  | [], _, _, _, _, h, _, _ => by simp at h
  | _ :: _, [], _, _, _, _, h, _ => by simp at h
  | p :: P, w :: vs, 0, m, nd, h1, h2, hk => by
    simp at h1 h2; subst h1; subst h2
    show bindC kindOf ((p, w) :: P.zip vs) m p = _
    unfold bindC
    rw [bindC_out fun v hv => (List.nodup_cons.mp nd).1 (List.of_mem_zip hv).1, if_neg hk]
    simp
  | p :: P, w :: vs, i + 1, m, nd, h1, h2, hk => by
    show bindC kindOf ((p, w) :: P.zip vs) m x = _
    unfold bindC
    exact bindC_get (i := i) (List.nodup_cons.mp nd).2 (by simpa using h1) (by simpa using h2) hk

/-- the names' values at the entry -/
def start (N : List Str) (vs : List V) : St := vs.map some ++ List.replicate (N.length - vs.length) none

/-- the context of a def's body, at its entry; an exception leaves the frame, then lies as CX says -/
def cxOf (CX : CXT) (P : Program) (w : World) (K : PySem.W.Frag) (mg : Str → Option Value) (base : Heap) (N : List Str) (qual : Str) (scope : Scope) (f : Addr) (cd : Value) (A : Around) (outer : List Env) (s : Shared) (H : Hp) (E : XK) : Cx where
  prog := P
  w := w
  K := K
  mg := mg
  base := base
  A := A.deeper (envOfC qual scope s.heap.objs.size f cd)
  N := N
  s₀ := s
  H₀ := H
  env := envOfC qual scope s.heap.objs.size f cd
  outer := outer
  stack := envOfC qual scope s.heap.objs.size f cd :: outer
  ex := []
  calm := true
  fn := fun _ => true
  pn := []
  xe := fun e s' => wpAny (model P w) (A.deeper (envOfC qual scope s.heap.objs.size f cd)) (leaving (envOfC qual scope s.heap.objs.size f cd) e) (fun _ s'' => CX outer H s E e s'') (fun e' s'' => CX outer H s E e' s'') s'

theorem cell_has {sc : Scope} {n : Nat} {x : Str} (h : sc.names.lookup x = some .cell) : ∃ c, (cellsFrom n sc.names []).lookup x = some c := by
  have q := PySem.W.cellsFrom_some sc.names n [] (.inl h)
  exact Option.isSome_iff_exists.mp q

theorem inv_start {CX : CXT} {P : Program} {w : World} {K : PySem.W.Frag} {mg : Str → Option Value} {base : Heap} {N ps : List Str} {qual : Str} {scope : Scope} {f : Addr} {cd : Value} {A : Around} {outer : List Env} {s s1 : Shared} {H : Hp} {E : XK} {us : List Value} {vs : List V}
    (S : FnScope N ps scope) (hd : A.handled = none) (e0 : Env0 P w K mg base A outer s H) (hl : vs.length = ps.length) (r : Vals vs us)
    (x : InCallC s s.heap.objs.size (bindL (envOfC qual scope s.heap.objs.size f cd).kindOf (ps.zip us) fun _ => none) (cellsFrom (s.heap.objs.size + 1) scope.names []) (bindC (envOfC qual scope s.heap.objs.size f cd).kindOf (ps.zip us) fun _ => none) s1) :
    Inv (cxOf CX P w K mg base N qual scope f cd A outer s H E) [] (start N vs) H s1 := by
  have hpl : ps.length ≤ N.length := by have := congrArg List.length S.pre; rw [List.length_take] at this; omega
  obtain ⟨h1, tk, rfl, hk⟩ := x.done
  have noA : ∀ b : Addr, b ∉ (cxOf CX P w K mg base N qual scope f cd A outer s H E).ex := fun b z => absurd (show b ∈ ([] : List Addr) from z) (by simp)
  refine ⟨⟨e0.mod, S.kind, rfl, rfl, Nat.le_refl _, fun y z c h1 h2 => ?_, fun y hy => ?_, fun y c _ h => ?_, fun _ => hd, Around.frames_deeper e0.frames, .inr ⟨rfl, rfl⟩, fun b z => absurd z (noA b), e0.bs, e0.bsz, fun b _ _ => noA b, fun b z => absurd z (noA b), e0.funs, e0.frf⟩,
    rfl, e0.bare, Un.kept hk, ⟨_, x.toInCall.ns, fun i y v h1 h2 h3 => ?_⟩, fun y c h => ⟨_, x.cell y c h⟩, e0.hok.fresh (Nat.le_refl _), fun y c h => ?_, fun p hp => absurd (show p ∈ ([] : List (Addr × Obj)) from hp) (by simp), e0.hok.kept hk, ?_⟩
  · exact name_of_addr x.apart (PySem.mem_of_lookup h1) (PySem.mem_of_lookup h2)
  · have hy : scope.names.lookup y = some .cell ∨ scope.names.lookup y = some .free := hy
    rcases hy with hy | hy
    · exact cell_has hy
    · exact absurd rfl (S.nofree _ (PySem.mem_of_lookup hy))
  · exact Nat.le_of_lt (x.above y c (PySem.mem_of_lookup h))
  · have hi : i < vs.length := by
      unfold start at h2
      by_cases hi : i < vs.length
      · exact hi
      · rw [List.getElem?_append_right (by simpa using hi)] at h2
        rw [List.getElem?_replicate] at h2
        split at h2 <;> cases h2
    have ha : vs[i]? = some v := by
      unfold start at h2
      rw [List.getElem?_append_left (by simpa using hi), List.getElem?_map] at h2
      cases e : vs[i]? with
      | none => rw [e] at h2; cases h2
      | some a => rw [e] at h2; cases h2; rfl
    obtain ⟨u, hu, rv⟩ := r.get ha
    have hp : ps[i]? = some y := by
      rw [← S.pre, List.getElem?_take_of_lt (by omega)]; exact h1
    have ndP : ps.Nodup := by rw [← S.pre]; exact S.nd.sublist (List.take_sublist _ _)
    refine ⟨u, rv, ?_⟩
    rcases S.par y (List.mem_of_getElem? hp) with k | k
    · exact .inl ⟨k, bindL_get ndP hp hu k⟩
    · obtain ⟨c, e⟩ := cell_has (n := s.heap.objs.size + 1) k
      refine .inr ⟨.inl k, c, e, ?_⟩
      have q := x.cell y c e
      rw [bindC_get ndP hp hu (by show scope.names.lookup y ≠ _; rw [k]; decide)] at q
      exact q
  · exact e0.hok.fresh (Nat.le_of_lt (x.above y c (PySem.mem_of_lookup h)))
  · unfold start
    show _ = N.length
    rw [List.length_append, List.length_map, List.length_replicate]
    omega

/-- THE RULE: a def (or a method) of the text, by its body. The body's reading t is chosen for each entry; it is run at the parameters' values -/
theorem fn_of {CX : CXT} {P : Program} {w : World} {K : PySem.W.Frag} {mg : Str → Option Value} {base : Heap} {k : Nat} {f : Addr} {name qual : Str} {params : Arguments} {body : List Stmt} {scope : Scope} {dV kV doc pm cdv ct oc : Value} {an od : Option Addr}
    {osl : Array (Option Value)} {N ps : List Str} {sp : Sp} (lk : K.lookup f = some ⟨oc, od, .func (PySem.W.fnOf name qual params body scope dV kV doc pm an cdv ct), osl⟩) (hcd : PySem.W.codeIn K cdv qual = true) (S : FnScope N ps scope)
    (len : ∀ vs H Q E, sp vs H Q E → vs.length = ps.length)
    (hbody : ∀ (A : Around) (outer : List Env) (s : Shared) (H : Hp) (vs : List V) (Q : VK) (E : XK), Room k (A.deeper (envOfC qual scope s.heap.objs.size f cdv)) → sp vs H Q E →
      ∃ t, PSs (cxOf CX P w K mg base N qual scope f cdv A outer s H E) body t ∧ t { nx := fun _ H' => Q .non H', rt := Q } (start N vs) H) :
    FnOk P w K mg base CX (k + 1) f (PySem.W.fnOf name qual params body scope dV kV doc pm an cdv ct) ps sp := by
  refine ⟨len, fun A outer s H args us vs Q E hr e0 hb r hsp => ?_⟩
  have hl := len _ _ _ _ hsp
  have KX : K.In s.heap := e0.mod.kin.keeps fun b o e => (e0.bs b o e).1
  have lim : s.heap.NoLimit := e0.mod.nolimit.keeps fun b o e => (e0.bs b o e).1
  have hkind : ∀ y ∈ ps.zip us, scope.names.lookup y.1 = some .local ∨ (scope.names.lookup y.1 = some .cell ∧ ((cellsFrom (s.heap.objs.size + 1) scope.names []).lookup y.1).isSome = true) := fun ⟨n, v⟩ hy => by
    rcases S.par n (List.of_mem_zip hy).1 with q | q
    · exact .inl q
    · exact .inr ⟨q, PySem.W.cellsFrom_some _ _ _ (.inl q)⟩
  refine codeAny_call_function hr.depth (KX _ _ lk) rfl S.co S.gen rfl (PySem.W.codeRec_of KX hcd) (hb _ _ _ _ ?_)
  refine wpAny_newFunctionEnv_cells S.kind hkind fun env he s1 x => ?_
  subst he
  refine ⟨lim.keeps x.toInCall.keep, codeAny_func ?_⟩
  obtain ⟨t, ht, hq⟩ := hbody A outer s H vs Q E (hr.deeper _) hsp
  have I : Inv (cxOf CX P w K mg base N qual scope f cdv A outer s H E) [] (start N vs) H s1 := inv_start S hr.hd e0 hl r x
  refine wpAny_mono (ht [] s1 (start N vs) H _ I hq) (fun fl s' hs => ?_) fun e s' hs => hs
  have fin : ∀ {σ' : St} {H' : Hp} {v : V} {u : Value}, Inv (cxOf CX P w K mg base N qual scope f cdv A outer s H E) [] σ' H' s' → RelV v u → Q v H' → CE outer P w H s Q u s' :=
    fun {σ' H' v u} J rv q => ⟨v, H', J.os, J.bare, J.base, J.hok, rv, q⟩
  cases fl with
  | ret u =>
    obtain ⟨v, σ', H', J, rv, q⟩ := hs
    exact fin J rv q
  | next =>
    obtain ⟨σ', H', J, q⟩ := hs
    exact fin (v := V.non) (u := Value.none) J rfl q
  | brk =>
    obtain ⟨_, _, _, q⟩ := hs
    exact False.elim q
  | cont =>
    obtain ⟨_, _, _, q⟩ := hs
    exact False.elim q
end L2

namespace L2
open PySem PySem.Spec PyProof.Rows
section
variable {X : Cx} {x : Str} {p pos : Pos} {e : Expr} {es : List Expr} {t : TA} {id T : String} {r : List V → Hp → VK → Prop}

def tCB (r : List V → Hp → VK → Prop) (t : TA) : TE := fun σ H Q => t σ H fun vs H1 => r vs H1 Q
/-- f(e, ..), f a built-in function -/
theorem pe_callB (hc : CallR X (.builtin id) r) (hg : Gl X x) (hm : X.mg x = none) (hv : bootBuiltins x = some (.builtin id)) (ha : PA X (e :: es) t) (hn : x ≠ "__name__" := by decide) (hdb : (x == ("__debug__" : Str)) = false := by decide)
    (he : starEach (e :: es) X.env = (false, eval e X.env) :: starEach es X.env := by rfl) (hpl : (backTo pos (starEach es X.env)).any (·.1) = false := by rfl) : PE X (.Call (.Name x p) (e :: es) [] pos) (tCB r t) := by
  intro pins s σ H Q I h
  refine wpAny_Call_Name_kw (ld_blt I hg hm hv ?_ hn hdb)
  exact PyProof.Rows.callWith_builtin1 (thn (ha pos pins s σ H _ I h) fun us s1 ⟨vs, H1, I1, r1, q1⟩ => hc pins s1 σ H1 vs us Q I1 r1 q1) he hpl
/-- T(e, ..), T a built-in type -/
theorem pe_callTy (hc : CallR X (.type T) r) (hg : Gl X x) (hm : X.mg x = none) (hv : bootBuiltins x = some (.type T)) (ha : PA X (e :: es) t) (hn : x ≠ "__name__" := by decide) (hdb : (x == ("__debug__" : Str)) = false := by decide)
    (he : starEach (e :: es) X.env = (false, eval e X.env) :: starEach es X.env := by rfl) (hpl : (backTo pos (starEach es X.env)).any (·.1) = false := by rfl) : PE X (.Call (.Name x p) (e :: es) [] pos) (tCB r t) := by
  intro pins s σ H Q I h
  refine wpAny_Call_Name_kw (ld_blt I hg hm hv ?_ hn hdb)
  exact PyProof.Rows.callWith_type1 (thn (ha pos pins s σ H _ I h) fun us s1 ⟨vs, H1, I1, r1, q1⟩ => hc pins s1 σ H1 vs us Q I1 r1 q1) he hpl
end
end L2

namespace HT
open PySem PyProof.Rows

section
open PySem.SeqAt
open PySem.AutoSeq1 (wpAny_loadPart')
open PySem.MeetsSeq PySem.MeetsSeq2 PySem.MeetsSeq3

end

section
variable {prog : Program} {w : World} {A : Around} {E : Value → Shared → Prop} {s : Shared}

/-! ### t[a:b], not the whole -/
/-- a slice's bound as a place among n (d where it is left out) -/
def sIx (n d : Nat) : Option Int → Nat
  | none => d
  | some v => if v < 0 then (v + (n : Int)).toNat else min v.toNat n
theorem sIx_none (n d : Nat) : sIx n d none = d := rfl
theorem sIx_nat (n d k : Nat) : sIx n d (some (k : Int)) = min k n := by
  show (if (k : Int) < 0 then ((k : Int) + (n : Int)).toNat else min (k : Int).toNat n) = min k n
  rw [if_neg (by omega), Int.toNat_natCast]
end
end HT

namespace L2
open PySem PySem.Spec PyProof.Rows

/-! ### the parts of a slice -/
abbrev TO := St → Hp → (Option Int → Hp → Prop) → Prop
/-- a slice's part (left out, or an int) -/
def PO (X : Cx) (e : Option Expr) (t : TO) : Prop :=
  ∀ (pins : List (Addr × Obj)) (s : Shared) (σ : St) (H : Hp) (Q : Option Int → Hp → Prop), Inv X pins σ H s → t σ H Q →
    wpAny (model X.prog X.w) X.A (evalPart e X.env) (fun u s' => ∃ o H', Inv X pins σ H' s' ∧ IsPart u o ∧ Q o H') X.xe s
def tNoPart : TO := fun _ H Q => Q none H
def tPart (t : TE) : TO := fun σ H Q => t σ H fun x H1 => ∃ i, x = .int i ∧ Q (some i) H1

theorem intsAre_of {ns : List Int} : ∀ {us : List Value}, Vals (ns.map V.int) us → IntsAre us ns := by
  induction ns with
  | nil => intro us r; rw [List.map_nil] at r; cases r; exact .nil
  | cons n ns ih =>
    intro us r
    rw [List.map_cons] at r
    cases r with
    | cons r1 r2 =>
      obtain ⟨t, e⟩ := r1
      subst e
      exact .cons n t (ih r2)

section
variable {X : Cx} {e : Expr} {te : TE} {lo hi : Option Expr} {tl th : TO} {pos p2 : Pos}

theorem po_none : PO X none tNoPart := by
  intro pins s σ H Q I h
  rw [evalPart_none]
  exact wpAny_pure ⟨none, H, I, .none, h⟩
theorem po_some (h : PE X e te) : PO X (some e) (tPart te) := by
  intro pins s σ H Q I hw
  rw [evalPart_some]
  refine thn (h pins s σ H _ I hw) fun u s1 ⟨x, H1, I1, r1, q1⟩ => ?_
  obtain ⟨i, rfl, q⟩ := q1
  obtain ⟨t, rfl⟩ := r1
  exact ⟨some i, H1, I1, .int i t, q⟩

/-- what a slice of a value is, by values: the slice object stands at sl -/
def SlR (X : Cx) (r : V → Option Int → Option Int → Hp → VK → Prop) : Prop :=
  ∀ (pins : List (Addr × Obj)) (s : Shared) (σ : St) (H : Hp) (x : V) (v vl vu : Value) (lo hi : Option Int) (sl : Addr) (Q : VK), Inv X pins σ H s → RelV x v → s.heap.IsSliceOf sl vl vu .none → IsPart vl lo → IsPart vu hi → r x lo hi H Q →
    ∃ T id, typeLookup (.type T) "__getitem__" = pure (some (.builtin id)) ∧ s.TypeIs v T ∧ wpAny (model X.prog X.w) X.A (getItem v (.ref sl)) (EP X pins σ Q) X.xe s
def tSl (r : V → Option Int → Option Int → Hp → VK → Prop) (te : TE) (tl th : TO) : TE := fun σ H Q => te σ H fun x H1 => tl σ H1 fun l H2 => th σ H2 fun u H3 => r x l u H3 Q
/-- a[lo:hi], any a -/
theorem pe_slice {r : V → Option Int → Option Int → Hp → VK → Prop} (hr : SlR X r) (he : PE X e te) (hl : PO X lo tl) (hu : PO X hi th) : PE X (.Subscript e (.Slice lo hi none p2) pos) (tSl r te tl th) := by
  intro pins s σ H Q I h
  refine Subscript_ (thn (he pins s σ H _ I h) fun v s1 ⟨x, H1, I1, r1, q1⟩ => ?_)
  refine wpAny_Slice (thn (hl pins s1 σ H1 _ I1 q1) fun vl s2 ⟨l, H2, I2, pl, q2⟩ => thn (hu pins s2 σ H2 _ I2 q2) fun vu s3 ⟨u, H3, I3, pu, q3⟩ => ?_)
  rw [evalPart_none]
  refine wpAny_pure ?_
  have I4 : Inv X pins σ H3 { s3 with heap := s3.heap.push { cls := .type "slice", data := .fields #[vl, vu, .none] } } := I3.kept (t' := s3.toks) fun b ob q => Heap.get?_push_of_some _ q
  obtain ⟨T, id, hT, ht, hg⟩ := hr pins { s3 with heap := s3.heap.push { cls := .type "slice", data := .fields #[vl, vu, .none] } } σ H3 x v vl vu l u s3.heap.objs.size Q I4 r1 (Heap.IsSliceOf.new ..) pl pu q3
  show wpAny (model X.prog X.w) X.A (subscriptTail e (.Slice lo hi none p2) v (.ref s3.heap.objs.size)) (EP X pins σ Q) X.xe { s3 with heap := s3.heap.push { cls := .type "slice", data := .fields #[vl, vu, .none] } }
  exact tail_any (ops := [.ref s3.heap.objs.size, v]) ht hT hg (by with_unfolding_all rfl)

/-- the items of xs[lo:hi] -/
def cutV (xs : List V) (lo hi : Option Int) : List V := (xs.drop (HT.sIx xs.length 0 lo)).take (HT.sIx xs.length xs.length hi - HT.sIx xs.length 0 lo)
theorem cutV_length (xs : List V) (lo hi : Option Int) : (cutV xs lo hi).length ≤ xs.length := by
  unfold cutV
  rw [List.length_take, List.length_drop]
  omega
/-! ### t < u, t + u -/
end
end L2

namespace L2
open PySem PySem.Spec PyProof.Rows

/-! ### places -/
/-- the place that an index of any sign means -/
def ixN (n : Nat) (i : Int) : Option Nat := if 0 ≤ i then (if i < n then some i.toNat else none) else if -(n : Int) ≤ i then some (i + n).toNat else none
def atI {α : Type} (xs : List α) (i : Int) : Option α := (ixN xs.length i).bind fun j => xs[j]?
theorem ixN_seq {n : Nat} {i : Int} {j : Nat} (h : ixN n i = some j) : seqIndex? i n = some j ∧ j < n ∧ -(n : Int) ≤ i ∧ i < n := by
  unfold ixN at h
  by_cases h0 : 0 ≤ i
  · rw [if_pos h0] at h
    by_cases h1 : i < n
    · rw [if_pos h1] at h
      have e : i.toNat = j := Option.some.inj h
      exact ⟨by rw [seqIndex_of h0 h1, e], by omega, by omega, h1⟩
    · rw [if_neg h1] at h; cases h
  · rw [if_neg h0] at h
    by_cases h1 : -(n : Int) ≤ i
    · rw [if_pos h1] at h
      have e : (i + n).toNat = j := Option.some.inj h
      exact ⟨by rw [seqIndex_neg (by omega) h1, e], by omega, h1, by omega⟩
    · rw [if_neg h1] at h; cases h
theorem atI_get {α : Type} {xs : List α} {i : Int} {v : α} (h : atI xs i = some v) : ∃ j, seqIndex? i xs.length = some j ∧ xs[j]? = some v ∧ j < xs.length ∧ -(xs.length : Int) ≤ i ∧ i < xs.length := by
  unfold atI at h
  cases e : ixN xs.length i with
  | none => rw [e] at h; cases h
  | some j =>
    rw [e] at h
    obtain ⟨h1, h2, h3, h4⟩ := ixN_seq e
    exact ⟨j, h1, h, h2, h3, h4⟩
theorem atI_nat {α : Type} {xs : List α} {j : Nat} {v : α} (h : xs[j]? = some v) : atI xs (j : Int) = some v := by
  have hj : j < xs.length := (List.getElem?_eq_some_iff.mp h).1
  have e : ixN xs.length (j : Int) = some j := by
    unfold ixN
    rw [if_pos (by omega), if_pos (by omega)]; simp
  unfold atI; rw [e]; exact h
theorem atI_last {α : Type} (xs : List α) (v : α) : atI (xs ++ [v]) (-1) = some v := by
  have hl : (xs ++ [v]).length = xs.length + 1 := by simp
  have e : ixN (xs ++ [v]).length (-1) = some xs.length := by
    unfold ixN
    rw [hl, if_neg (by decide), if_pos (by omega)]
    congr 1
    omega
  unfold atI
  rw [e]
  show (xs ++ [v])[xs.length]? = some v
  simp

/-! ### what may be subscripted -/
/-- what stands as an index of a plain subscript -/
def PlainIx (b : Expr) : Prop := ∀ o i, subscripted b false o i = operate [o, i] (getItem o i)
/-- a subscript by values -/
def IxR (X : Cx) (r : R2) : Prop :=
  ∀ (value slice : Expr) (pins : List (Addr × Obj)) (s : Shared) (σ : St) (H : Hp) (x y : V) (v u : Value) (Q : VK), Inv X pins σ H s → RelV x v → RelV y u → r x y H Q →
    subscripted slice false v u = operate [v, u] (getItem v u) → wpAny (model X.prog X.w) X.A (subscriptTail value slice v u) (EP X pins σ Q) X.xe s
/-- a call of a builtin's method by values: the receiver, the arguments -/
def MtR (X : Cx) (id : String) (r : V → List V → Hp → VK → Prop) : Prop :=
  ∀ (pins : List (Addr × Obj)) (s : Shared) (σ : St) (H : Hp) (x : V) (xs : List V) (v : Value) (us : List Value) (Q : VK), Inv X pins σ H s → RelV x v → Vals xs us → r x xs H Q →
    wpAny (model X.prog X.w) X.A (call (.builtin id) (v :: us)) (EP X pins σ Q) X.xe s
section
variable {X : Cx} {a b : Expr} {ta tb : TE} {pos : Pos}
/-- a[b] -/
theorem pe_ix {r : R2} (hr : IxR X r) (ha : PE X a ta) (hb : PE X b tb) (hs : PlainIx b) : PE X (.Subscript a b pos) (tOp r ta tb) := by
  intro pins s σ H Q I h
  exact Subscript_ (binT ha hb I h fun v u s2 x y H2 I2 rx ry q => hr a b pins s2 σ H2 x y v u Q I2 rx ry q (hs _ _))

def rIxL (K : PySem.W.Frag) : R2 := fun x y H Q => ∃ p xs i v, x = .ref p ∧ y = .int i ∧ SqL K H p xs ∧ atI xs i = some v ∧ Q v H
def rIxT (K : PySem.W.Frag) : R2 := fun x y H Q => ∃ p xs i v, x = .ref p ∧ y = .int i ∧ SqT K H p xs ∧ atI xs i = some v ∧ Q v H
theorem ix_list : IxR X (rIxL X.K) := by
  intro value slice pins s σ H x y v u Q I rx ry h hs
  obtain ⟨p, xs, i, z, rfl, rfl, hq, he, q⟩ := h
  cases rx
  obtain ⟨t, rfl⟩ := ry
  obtain ⟨its, r, pl, hz⟩ := I.list hq
  obtain ⟨j, h1, h2, h3, h4, h5⟩ := atI_get he
  obtain ⟨w, ew, rw'⟩ := r.get h2
  have hl := r.length
  have hn := line63
  have fin : EP X pins σ Q w s := ⟨z, H, I, rw', q⟩
  by_cases h0 : 0 ≤ i
  · have hj : i.toNat = j := by
      rw [seqIndex_of h0 h5] at h1
      exact Option.some.inj h1
    exact item_listR pl.isList h0 (by omega) (by rw [hj]; simpa using ew) fin hs
  · have hj : (i + (its.toArray.size : Int)).toNat = j := by
      rw [seqIndex_neg (by omega) h4] at h1
      rw [List.size_toArray, ← hl]
      exact Option.some.inj h1
    exact subscriptTail_builtinR (x := w) pl.isList.typeIs slot_list_getitem.lookup
      (wpAny_getItem_list_neg (Q := fun r s' => r = w ∧ EP X pins σ Q r s') pl.isList (by omega) (by rw [List.size_toArray] <;> omega) (by omega) (by rw [hj]; simpa using ew) ⟨rfl, fin⟩) hs
theorem ix_tup : IxR X (rIxT X.K) := by
  intro value slice pins s σ H x y v u Q I rx ry h hs
  obtain ⟨p, xs, i, z, rfl, rfl, hq, he, q⟩ := h
  cases rx
  obtain ⟨t, rfl⟩ := ry
  obtain ⟨its, r, pl, hz⟩ := I.tuple hq
  obtain ⟨j, h1, h2, h3, h4, h5⟩ := atI_get he
  obtain ⟨w, ew, rw'⟩ := r.get h2
  have hl := r.length
  have hn := line63
  have fin : EP X pins σ Q w s := ⟨z, H, I, rw', q⟩
  exact subscriptTail_builtinR (x := w) pl.typeIs slot_tuple_getitem.lookup
    (getItem_tuple (j := j) (Q := fun r s' => r = w ∧ EP X pins σ Q r s') pl (by omega) (by omega) (by rw [List.size_toArray, ← hl]; exact h1) (by simpa using ew) ⟨rfl, fin⟩) hs
/-! ### xs[i] = v, any sign -/
/-! ### slices -/
theorem slice_bounds (lo hi : Option Int) (n : Nat) : (sliceBounds lo hi none n).1 = ((HT.sIx n 0 lo : Nat) : Int) ∧ (sliceBounds lo hi none n).2.1 = ((HT.sIx n n hi : Nat) : Int) ∧ (sliceBounds lo hi none n).2.2 = 1 := by
  refine ⟨?_, ?_, rfl⟩
  · cases lo with
    | none => simp [sliceBounds, HT.sIx]
    | some i =>
      simp only [sliceBounds, HT.sIx, Option.getD_none, show (1 : Int) > 0 by decide, if_true]
      by_cases h : i < 0
      · simp only [h, if_true] <;> omega
      · simp only [h, if_false] <;> omega
  · cases hi with
    | none => simp [sliceBounds, HT.sIx]
    | some i =>
      simp only [sliceBounds, HT.sIx, Option.getD_none, show (1 : Int) > 0 by decide, if_true]
      by_cases h : i < 0
      · simp only [h, if_true] <;> omega
      · simp only [h, if_false] <;> omega
theorem slicePick_cut (its : List Value) (lo hi : Option Int) : slicePick its.toArray lo hi none = ((its.drop (HT.sIx its.length 0 lo)).take (HT.sIx its.length its.length hi - HT.sIx its.length 0 lo)).toArray := by
  obtain ⟨h1, h2, h3⟩ := slice_bounds lo hi its.toArray.size
  unfold slicePick
  rw [h1, h2, h3]
  simp only [sliceRange_one, pick_run, List.size_toArray] <;> rfl
/-- xs[lo:hi] of a list: a new list -/
def rSlL (K : PySem.W.Frag) : V → Option Int → Option Int → Hp → VK → Prop := fun x lo hi H Q => ∃ a xs, x = .ref a ∧ SqL K H a xs ∧ ∀ p, H p = none → Q (.ref p) (upd H p (.lst (cutV xs lo hi)))
theorem sl_list : SlR X (rSlL X.K) := by
  intro pins s σ H x v vl vu lo hi sl Q I rx hs pl pu h
  obtain ⟨a, xs, rfl, hx, q⟩ := h
  cases rx
  obtain ⟨its, r, ht, hz⟩ := I.list hx
  have hlen := r.length
  refine ⟨"list", _, slot_list_getitem.lookup, ht.isList.typeIs, ?_⟩
  refine wpAny_getItem_list_slice ht.isList hs pl pu .none (by simp) ?_ (by rw [List.size_toArray] <;> omega)
  rw [slicePick_cut, ← hlen]
  refine ⟨.ref s.heap.objs.size, _, I.laid (t' := s.toks) (o := .lst (cutV xs lo hi)) (fun b ob q => Heap.get?_push_of_some _ q) (Nat.le_refl _) ?_, rfl, q _ (I.hok.fresh (Nat.le_refl _))⟩
  exact ⟨Nat.le_trans (cutV_length xs lo hi) hz, _, 0, (r.drop (HT.sIx xs.length 0 lo)).take (HT.sIx xs.length xs.length hi - HT.sIx xs.length 0 lo), Heap.get?_push_size _ rfl⟩

/-! ### in, not in: flat items -/
/-! ### len, list(x), tuple(x) of any list or tuple that is read -/
theorem call_len_seq : CallR X (.builtin "len") (fun xs H Q => ∃ p ys, xs = [.ref p] ∧ (SqL X.K H p ys ∨ SqT X.K H p ys) ∧ Q (.int ys.length) H) := by
  intro pins s σ H xs us Q I r h
  obtain ⟨p, ys, rfl, hq, q⟩ := h
  obtain ⟨u, rfl, rx⟩ := vals1 r
  cases rx
  have hn := line63
  rcases hq with hq | hq
  · obtain ⟨its, r', pl, hz⟩ := I.list hq
    have hlen := r'.length
    exact Calls.call_len_list pl.isList (by simp only [List.size_toArray] <;> omega) ⟨.int ys.length, H, I.tok _, ⟨s.toks + 1, by rw [List.size_toArray, hlen]⟩, q⟩
  · obtain ⟨its, r', pl, hz⟩ := I.tuple hq
    have hlen := r'.length
    exact len_tuple pl (by simp only [List.size_toArray] <;> omega) ⟨.int ys.length, H, I.tok _, ⟨s.toks + 1, by rw [List.size_toArray, hlen]⟩, q⟩
theorem call_list_of : CallR X (.type "list") (fun xs H Q => ∃ p ys, xs = [.ref p] ∧ (SqL X.K H p ys ∨ SqT X.K H p ys) ∧ ∀ l, H l = none → Q (.ref l) (upd H l (.lst ys))) := by
  intro pins s σ H xs us Q I r h
  obtain ⟨p, ys, rfl, hq, q⟩ := h
  obtain ⟨u, rfl, rx⟩ := vals1 r
  cases rx
  have fin : ∀ (its : List Value), Vals ys its → ys.length ≤ sizeLine → ∀ (h' : Heap) (c' : Nat), (∀ b o', s.heap.get? b = some o' → h'.get? b = some o') →
      h'.get? s.heap.objs.size = some { cls := .type "list", dict := none, data := .seq its.toArray c', slots := #[] } → EP X pins σ Q (.ref s.heap.objs.size) { s with heap := h' } := fun its r' hz h' c' kp e =>
    ⟨.ref s.heap.objs.size, _, I.laid (t' := s.toks) kp (Nat.le_refl _) (show ObjOk X.prog X.w _ h' _ (.lst ys) from ⟨hz, its, c', r', e⟩), rfl, q _ (I.hok.fresh (Nat.le_refl _))⟩
  rcases hq with hq | hq
  · obtain ⟨its, r', pl, hz⟩ := I.list hq
    have hlen := r'.length
    obtain ⟨o, ho, hc, n, hd⟩ := pl.isList
    exact call_list_seq p (.inl rfl) ho hc hd (fun h' c' kp e => fin its r' hz h' c' kp e) (by simp only [List.size_toArray] <;> omega)
  · obtain ⟨its, r', pl, hz⟩ := I.tuple hq
    have hlen := r'.length
    obtain ⟨o, ho, hc, n, hd⟩ := pl
    exact call_list_seq p (.inr rfl) ho hc hd (fun h' c' kp e => fin its r' hz h' c' kp e) (by simp only [List.size_toArray] <;> omega)
theorem call_tuple_of : CallR X (.type "tuple") (fun xs H Q => ∃ p ys, xs = [.ref p] ∧ ((SqL X.K H p ys ∧ ∀ l, H l = none → Q (.ref l) (upd H l (.tup ys))) ∨ (SqT X.K H p ys ∧ Q (.ref p) H))) := by
  intro pins s σ H xs us Q I r h
  obtain ⟨p, ys, rfl, h⟩ := h
  obtain ⟨u, rfl, rx⟩ := vals1 r
  cases rx
  rcases h with ⟨hq, q⟩ | ⟨hq, q⟩
  · obtain ⟨its, r', pl, hz⟩ := I.list hq
    have hlen := r'.length
    refine call_tuple_list pl.isList (fun h' kp => ?_) (by simp only [List.size_toArray] <;> omega)
    have I1 : Inv X pins σ H { s with heap := h' } := I.kept (t' := s.toks) kp
    have I2 : Inv X pins σ (upd H h'.objs.size (.tup ys)) { s with heap := h'.push { cls := .type "tuple", data := .seq its.toArray } } :=
      I1.laid (t' := s.toks) (fun b o e => Heap.get?_push_of_some _ e) (Nat.le_refl _) (show ObjOk X.prog X.w _ _ _ (.tup ys) from ⟨hz, its, r', IsTup.new _ _⟩)
    exact ⟨.ref h'.objs.size, _, I2, rfl, q _ (I1.hok.fresh (Nat.le_refl _))⟩
  · obtain ⟨its, r', pl, hz⟩ := I.tuple hq
    exact call_tuple_same pl ⟨.ref p, H, I, rfl, q⟩

/-! ### the call of a builtin's method: o.m(..) -/
/-- the value is of that builtin type -/
def tyV (K : PySem.W.Frag) (T : String) (x : V) (H : Hp) : Prop := match x with
  | .str _ => T = "str"
  | .int _ => T = "int"
  | .ref p => (T = "list" ∧ ∃ xs, SqL K H p xs) ∨ (T = "tuple" ∧ ∃ o, K.lookup p = some o ∧ o.cls = .type "tuple" ∧ o.dict = none) ∨
      (T = "dict" ∧ ((∃ kvs, H p = some (.dK kvs)) ∨ ∃ kvs, H p = some (.dT kvs))) ∨ (T = "set" ∧ ∃ S n, H p = some (.set S n))
  | _ => False
theorem tyV_is {pins : List (Addr × Obj)} {σ : St} {H : Hp} {s : Shared} {T : String} {x : V} {v : Value} (I : Inv X pins σ H s) (r : RelV x v) (ty : tyV X.K T x H) :
    s.TypeIs v T ∧ ∀ a, v = .ref a → ∃ ob, s.heap.get? a = some ob ∧ ob.dict = none := by
  cases x with
  | str z =>
    obtain ⟨t, rfl⟩ := r
    cases (show T = "str" from ty)
    exact ⟨typeIs_str s z t, fun _ e => nomatch e⟩
  | int i =>
    obtain ⟨t, rfl⟩ := r
    cases (show T = "int" from ty)
    exact ⟨typeIs_int s i t, fun _ e => nomatch e⟩
  | ref p =>
    cases r
    rcases ty with ⟨rfl, xs, hq⟩ | ⟨rfl, o, hk, hc, hd⟩ | ⟨rfl, hk⟩ | ⟨rfl, S, n, hk⟩
    · obtain ⟨its, _, pl, _⟩ := I.list hq
      refine ⟨pl.isList.typeIs, fun a e => ?_⟩
      cases e
      obtain ⟨o, n, e, c, hd, _⟩ := pl
      exact ⟨o, e, hd⟩
    · refine ⟨⟨o, I.kIn p o hk, hc⟩, fun a e => ?_⟩
      cases e
      exact ⟨o, I.kIn _ o hk, hd⟩
    · have z : ∃ o, s.heap.get? p = some o ∧ o.ExactDict := by
        rcases hk with ⟨kvs, hk⟩ | ⟨kvs, hk⟩
        · obtain ⟨_, _, _, _, o, _, _, e, ex, _⟩ := I.hok p _ hk
          exact ⟨o, e, ex⟩
        · obtain ⟨_, _, _, _, o, _, _, e, ex, _⟩ := I.hok p _ hk
          exact ⟨o, e, ex⟩
      obtain ⟨o, e, ex⟩ := z
      refine ⟨⟨o, e, ex.1⟩, fun a e2 => ?_⟩
      cases e2
      exact ⟨o, e, ex.2.1⟩
    · obtain ⟨o, _, _, _, e, ex, _⟩ := I.hok p _ hk
      refine ⟨⟨o, e, ex.1⟩, fun a e2 => ?_⟩
      cases e2
      exact ⟨o, e, ex.2.1⟩
  | _ => exact False.elim ty
def tBM (K : PySem.W.Frag) (T : String) (r : V → List V → Hp → VK → Prop) (to : TE) (t : TA) : TE := fun σ H Q => to σ H fun x H1 => tyV K T x H1 ∧ t σ H1 fun xs H2 => r x xs H2 Q
variable {o e : Expr} {es : List Expr} {to : TE} {t : TA} {name : Str} {apos cpos : Pos} {T id : String} {r : V → List V → Hp → VK → Prop}
theorem pe_bm (pa : PlainAttrs T) (slot : Slot T name id) (hty : typeOf (.builtin id) = pure (.type "method_descriptor")) (hm : MtR X id r) (ho : PE X o to) (ha : PA X (e :: es) t)
    (hbase : attributeBase o name X.env (eval o X.env) = eval o X.env := by rfl)
    (hfew : ((backTo cpos (starEach (e :: es) X.env)).all (fun x => !x.1) && (backToKw cpos (keywordEach [] X.env)).all (fun x => x.1.isSome)
      && decide ((e :: es).length + ([] : List Keyword).length + (if ([] : List Keyword).isEmpty then 0 else 1) < 30)) = true := by rfl)
    (hline : (apos.endLine == cpos.line) = true := by rfl) (hs : starEach (e :: es) X.env = (false, eval e X.env) :: starEach es X.env := by rfl) (hplain : (backTo cpos (starEach es X.env)).any (·.1) = false := by rfl) :
    PE X (.Call (.Attribute o name apos) (e :: es) [] cpos) (tBM X.K T r to t) := by
  intro pins s σ H Q I h
  refine wpAny_Call_method_late hbase hfew hline rfl (thn (ho pins s σ H _ I h) fun v s1 ⟨x, H1, I1, r1, ty, q1⟩ => ?_)
  obtain ⟨h1, h2⟩ := tyV_is I1 r1 ty
  refine ⟨T, id, pa, slot, hty, h1, h2, ?_⟩
  have hA := ha cpos pins s1 σ H1 _ I1 q1
  rw [hs] at hA ⊢
  refine Calls.callWith_builtin (by show (false || (backTo cpos (starEach es X.env)).any (·.1)) = false; rw [hplain] <;> rfl) (Calls.evalArgs_plain ?_)
  exact thn hA fun us s2 ⟨vs, H2, I2, r2, q2⟩ => hm pins s2 σ H2 x vs v us Q I2 r1 r2 q2
/- xs.append(e), list.index on a module's tuple .. are MtR facts of 06m -/
end
end L2

namespace L2
open PySem PySem.Spec PyProof.Rows

def MtM (X : Cx) (id : String) (r : V → List V → Hp → VK → Prop) : Prop :=
  ∀ (pins : List (Addr × Obj)) (s : Shared) (σ : St) (H : Hp) (x : V) (xs : List V) (v : Value) (us : List Value) (Q : VK), Inv X pins σ H s → RelV x v → Vals xs us → r x xs H Q →
    wpAny (model X.prog X.w) X.A (call (.builtin id) (v :: us)) (EP X pins σ Q) X.xe s

/-! ### lists of values -/
theorem Vals.one : ∀ {x : V} {us : List Value}, Vals [x] us → ∃ u, us = [u] ∧ RelV x u
  | _, _, .cons r .nil => ⟨_, rfl, r⟩
theorem Vals.reverse {xs : List V} {us : List Value} (h : Vals xs us) : Vals xs.reverse us.reverse := by
  induction h with
  | nil => exact .nil
  | cons r t ih => rw [List.reverse_cons, List.reverse_cons]; exact Vals.append ih (.cons r .nil)
theorem Vals.rep {xs : List V} {us : List Value} (h : Vals xs us) : ∀ k : Nat, Vals (List.replicate k xs).flatten (List.replicate k us).flatten
  | 0 => .nil
  | k + 1 => by
    rw [List.replicate_succ, List.replicate_succ, List.flatten_cons, List.flatten_cons]
    exact Vals.append h (Vals.rep h k)
theorem foldl_rep (its : List Value) : ∀ (k : Nat) (acc : List Value),
    List.foldl (fun x1 x2 => x1 ++ x2) acc.toArray (List.replicate k its.toArray) = (acc ++ (List.replicate k its).flatten).toArray
  | 0, acc => by simp
  | k + 1, acc => by
    have e : acc.toArray ++ its.toArray = (acc ++ its).toArray := by simp
    have e2 : (acc ++ its) ++ (List.replicate k its).flatten = acc ++ (List.replicate (k + 1) its).flatten := by
      rw [List.replicate_succ, List.flatten_cons, List.append_assoc]
    rw [← e2, ← foldl_rep its k (acc ++ its), ← e, List.replicate_succ, List.foldl_cons]

section
variable {X : Cx} {pins : List (Addr × Obj)} {σ : St} {H : Hp} {s : Shared} {l b : Addr} {xs ys zs : List V}

/-! ### the two steps: a tracked list is rewritten, a new list is laid -/
theorem Inv.lset {its its' : List Value} {n : Nat} {f : Array Value → Array Value} {t' : Nat} (I : Inv X pins σ H s) (hH : H l = some (.lst xs))
    (e : s.heap.get? l = some { cls := .type "list", data := .seq its.toArray n }) (hf : f its.toArray = its'.toArray) (hv : Vals ys its') (hz : ys.length ≤ sizeLine) :
    Inv X pins σ (upd H l (.lst ys)) { s with heap := s.heap.update l (Obj.mapSeq f), toks := t' } := by
  have q := PySem.IsL.update e f
  rw [hf] at q
  refine I.write (x := l) (e := l) (by rw [hH]; exact trivial) (.inl rfl) (fun b' u hb hu => (Heap.get?_update_other s.heap (Obj.mapSeq f) (Ne.symm hb)).trans hu) ⟨_, q⟩ ?_
  exact ⟨hz, its', _, hv, q⟩
theorem Inv.lnew {its : List Value} {t' : Nat} (I : Inv X pins σ H s) (hv : Vals ys its) (hz : ys.length ≤ sizeLine) :
    Inv X pins σ (upd H s.heap.objs.size (.lst ys)) { s with heap := s.heap.push { cls := .type "list", data := .seq its.toArray }, toks := t' } :=
  I.laid (fun _ _ q => Heap.get?_push_of_some _ q) (Nat.le_refl _) ⟨hz, its, 0, hv, Heap.get?_push_size _ rfl⟩
theorem Inv.fresh (I : Inv X pins σ H s) : H s.heap.objs.size = none := I.hok.fresh (Nat.le_refl _)
theorem Inv.lstM (I : Inv X pins σ H s) (hH : H l = some (.lst xs)) : xs.length ≤ sizeLine ∧ ∃ (its : List Value) (n : Nat), Vals xs its ∧ xs.length = its.length ∧ s.heap.get? l = some { cls := .type "list", data := .seq its.toArray n } := by
  obtain ⟨z, its, n, r, e⟩ := I.hok l _ hH
  exact ⟨z, its, n, r, r.length, e⟩

theorem notLongL {n : Nat} (h : n ≤ sizeLine) : Builtin.List.listTooLong n = false := by
  unfold Builtin.List.listTooLong
  exact decide_eq_false (by omega)
end

section
variable {X : Cx}

/-! ### methods -/
def rAppend : V → List V → Hp → VK → Prop := fun x vs H Q => ∃ l xs y, x = .ref l ∧ vs = [y] ∧ H l = some (.lst xs) ∧ xs.length < sizeLine ∧ Q .non (upd H l (.lst (xs ++ [y])))
theorem mt_append : MtM X "list.append" rAppend := by
  intro pins s σ H x vs v us Q I rx rv h
  obtain ⟨l, xs, y, rfl, rfl, hH, hz, q⟩ := h
  cases rx
  obtain ⟨u, rfl, ru⟩ := rv.one
  obtain ⟨z, its, n, r, hl, e⟩ := I.lstM hH
  refine call_meets F.slot_list_append ⟨_, e, rfl⟩ F.entry_list_append (F.args_list_append_2 _ _) (PySem.list_append l its.toArray n u (by rw [List.size_toArray]; omega)) ⟨e, ?_⟩
  refine ⟨.non, _, I.lset (its' := its ++ [u]) hH e (by simp) (r.append (.cons ru .nil)) ?_, rfl, q⟩
  rw [List.length_append, List.length_singleton]
  omega

def rExtend : V → List V → Hp → VK → Prop := fun x vs H Q => ∃ l b xs zs, x = .ref l ∧ vs = [.ref b] ∧ H l = some (.lst xs) ∧ H b = some (.lst zs) ∧ xs.length + zs.length ≤ sizeLine ∧ Q .non (upd H l (.lst (xs ++ zs)))
theorem mt_extend : MtM X "list.extend" rExtend := by
  intro pins s σ H x vs v us Q I rx rv h
  obtain ⟨l, b, xs, zs, rfl, rfl, hH, hB, hz, q⟩ := h
  cases rx
  obtain ⟨u, rfl, ru⟩ := rv.one
  cases ru
  obtain ⟨z, its, n, r, hl, e⟩ := I.lstM hH
  obtain ⟨z2, its2, n2, r2, hl2, e2⟩ := I.lstM hB
  have hsz : its.toArray.size + its2.toArray.size ≤ sizeLine := by rw [List.size_toArray, List.size_toArray]; omega
  have hlong : ¬ (!its.toArray.isEmpty && Builtin.List.listTooLong (its.toArray.size + its2.toArray.size)) = true := by
    rw [notLongL hsz, Bool.and_false]
    exact Bool.false_ne_true
  refine call_meets F.slot_list_extend ⟨_, e, rfl⟩ F.entry_list_extend (F.args_list_extend_2 _ _)
    (AutoSeq1.list_extend_list_list_0 l its.toArray n b its2.toArray n2 hlong (by rw [List.size_toArray]; omega) (by omega)) ⟨e, e2, ?_⟩
  refine ⟨.non, _, I.lset (its' := its ++ its2) hH e (by simp) (r.append r2) ?_, rfl, q⟩
  rw [List.length_append]
  omega

/-! ### list + list, list += list, list * int -/
def rCat : R2 := fun x y H Q => ∃ l b xs zs, x = .ref l ∧ y = .ref b ∧ H l = some (.lst xs) ∧ H b = some (.lst zs) ∧ xs.length + zs.length ≤ sizeLine ∧ ∀ p, H p = none → Q (.ref p) (upd H p (.lst (xs ++ zs)))
theorem op_cat : OpR X (binaryOp .Add) rCat := by
  intro pins s σ H x y v u Q I rx ry h
  obtain ⟨l, b, xs, zs, rfl, rfl, hH, hB, hz, q⟩ := h
  cases rx
  cases ry
  obtain ⟨z, its, n, r, hl, e⟩ := I.lstM hH
  obtain ⟨z2, its2, n2, r2, hl2, e2⟩ := I.lstM hB
  refine PySem.P.add_list e e2 ?_ (by rw [List.size_toArray, List.size_toArray]; omega)
  have ea : its.toArray ++ its2.toArray = (its ++ its2).toArray := by simp
  rw [ea]
  exact ⟨.ref _, _, I.lnew (t' := s.toks) (r.append r2) (by rw [List.length_append]; omega), rfl, q _ I.fresh⟩
/-- a list times an int (a negative one is nothing) -/
def rRep : R2 := fun x y H Q => ∃ l k xs, x = .ref l ∧ y = .int k ∧ H l = some (.lst xs) ∧ -(2 ^ 63) ≤ k ∧ k < 2 ^ 63 ∧ xs.length * k.toNat ≤ sizeLine ∧
  ∀ p, H p = none → Q (.ref p) (upd H p (.lst (List.replicate k.toNat xs).flatten))
theorem len_rep {α : Type} (xs : List α) (k : Nat) : (List.replicate k xs).flatten.length = k * xs.length := by
  induction k with
  | zero => simp
  | succ k ih => rw [List.replicate_succ, List.flatten_cons, List.length_append, ih, Nat.succ_mul, Nat.add_comm]
theorem op_rep : OpR X (binaryOp .Mult) rRep := by
  intro pins s σ H x y v u Q I rx ry h
  obtain ⟨l, k, xs, rfl, rfl, hH, h1, h2, hz, q⟩ := h
  cases rx
  obtain ⟨t, rfl⟩ := ry
  obtain ⟨z, its, n, r, hl, e⟩ := I.lstM hH
  have hlen : its.toArray.size * k.toNat ≤ sizeLine := by rw [List.size_toArray, ← hl]; exact hz
  have hcap : ¬ its.toArray.size * k.toNat > (2 ^ 63 - 1) / 8 := by
    have : (sizeLine : Nat) ≤ (2 ^ 63 - 1) / 8 := by decide
    omega
  have hfit : ¬ (!Builtin.List.listFitsIndex k) = true := by
    rw [fitsIndex_both h1 h2]
    exact Bool.false_ne_true
  have hlong : ¬ Builtin.List.listTooLong (its.toArray.size * k.toNat) = true := by
    rw [notLongL hlen]
    exact Bool.false_ne_true
  have hnew : List.foldl (fun x1 x2 => x1 ++ x2) #[] (List.replicate (if its.toArray.isEmpty = true then 0 else k.toNat) its.toArray) = (List.replicate k.toNat its).flatten.toArray := by
    have f0 : ∀ m : Nat, List.foldl (fun x1 x2 => x1 ++ x2) #[] (List.replicate m its.toArray) = (List.replicate m its).flatten.toArray := fun m => by
      have := foldl_rep its m []
      rw [List.nil_append] at this
      exact this
    rw [f0]
    cases its with
    | nil => simp
    | cons a r' => rw [if_neg (by simp)]
  refine wpAny_binaryOp_repeat_ref (T := "list") (U := "int") (by decide) ⟨_, e, rfl⟩ (fun s' => typeIs_int s' k t) noFill_list_mul F.fills_int_mul F.slot_int_rmul repeat_list F.slot_int_index.lookup
    (call_meets F.slot_int_rmul (typeIs_int s k t) F.entry_int_rmul (F.args_int_rmul_2 _ _) (int___rmul___int_list k t l its.toArray n)
      ⟨e, rfl, ⟨_, e, rfl⟩, call_meets F.slot_list_mul ⟨_, e, rfl⟩ F.entry_list_mul (F.args_list_mul_2 _ _) (AutoListH.list___mul___list_int_3 l its.toArray n k t hfit hcap hlong) ⟨e, ?_⟩⟩)
  rw [hnew]
  exact ⟨.ref _, _, I.lnew (t' := s.toks) (r.rep k.toNat) (by rw [len_rep, Nat.mul_comm]; exact hz), rfl, q _ I.fresh⟩

/-! ### del xs[i] -/
end

/-! ### xs[a:b] = ys -/
section
variable {prog : Program} {w : World} {A : Around} {E : Value → Shared → Prop} {s : Shared}
end

section
variable {X : Cx}
end
end L2

namespace Att
open PySem PySem.W PySem.Calls PyProof.Rows

/-! ### the script -/
theorem ints_of_wellAll {P : Params} {h : Heap} : ∀ (ns : List Int) (vs : List Value), WellAll P h vs (ns.map WData.int) → IntsAre vs ns := by
  intro ns
  induction ns with
  | nil =>
    intro vs w
    rw [List.map_nil] at w
    cases w
    exact .nil
  | cons n ns ih =>
    intro vs w
    rw [List.map_cons] at w
    cases w with
    | cons a b =>
      cases a
      exact .cons _ _ (ih _ b)

theorem script_of {l : OpenLaw} {n : Nat} (hn : l.most = some n) {P : Params} {h : Heap} {args : List WData} {vals : List Value}
    (hpre : l.row.toRowW.claim.pre args = true) (hwl : WellAll P h vals args) :
    ∃ a vs ns, vals = [Value.ref a] ∧ args = [WData.list (ns.map WData.int)] ∧ h.get? a = some { cls := .type "list", data := .seq vs.toArray } ∧ IntsAre vs ns ∧ ns.length ≤ n := by
  have hsh : WShape.hasAll [] args [.list .int] = true := (pre_splitW hpre).1
  have hc : l.pre.holds [] { args := args } = true := (pre_splitW hpre).2
  obtain ⟨d, r, rfl, h1, h2⟩ := hasAllW_cons hsh
  obtain rfl := hasAllW_nil h2
  obtain ⟨xs, rfl, h3⟩ := hasW_list h1
  obtain ⟨ns, rfl⟩ := items_int h3
  have hlen : ns.length ≤ n := by
    unfold OpenLaw.pre at hc
    have h4 : (WTm.not (.lt (.lit (.int (n : Int))) (.len (.arg 0)))).holds [] { args := [.list (ns.map .int)] } = true := by
      have h4 := (holds_andW hc).1
      rw [hn] at h4
      exact h4
    have h5 := condW_of h4 (w_not (w_lt w_lit (w_len_list (w_arg rfl))))
    rw [List.length_map] at h5
    refine Nat.le_of_not_lt fun q => ?_
    have q' : (n : Int) < ((ns.length : Nat) : Int) := by omega
    first
      | (rw [decide_eq_true q'] at h5; exact absurd h5 (by decide))
      | (simp at h5; omega)
  cases hwl with
  | cons w1 w2 =>
    cases w2
    cases w1 with
    | list ho hall => exact ⟨_, _, ns, rfl, rfl, ho, ints_of_wellAll ns _ hall, hlen⟩

theorem post_true (l : OpenLaw) (args : List WData) : l.row.toRowW.claim.post args (.bool true) args = true :=
  postW_of (r := l.row.toRowW) (X := (true == true))
    (show WShape.has [] (.bool true) .bool = true by first | rfl | decide | simp [WShape.has, WShape.arms, WShape.armsAll])
    (show (WTm.eq .res (.lit (.bool true))).value [] { args := args, res := some (.bool true), after := args } = some (.bool (true == true)) from w_eq_bool (w_res rfl) w_lit) rfl

/-! ### the attachment: holds_open's last premise (the goal 'hc' behind k_head) from a wpAny of the law's body -/
/-- the same from a codeAny of the CALL (for a layer whose function contracts speak of calls) -/
theorem attach_call {l : OpenLaw} {n : Nat} {q : Program} {loose : List Str} {XP : (Str → Option Value) → Heap → Prop} {YP : World → Heap → Prop} {d : DefRec}
    (hn : l.most = some n) (hdf : d.params.defaults = [])
    (call : ∀ (w : World) (s₀ s₁ : Shared) (mg mb : Str → Option Value) (fa : Addr) (o : Obj) (pm cd doc : Value) (a : Addr) (vs : List Value) (ns : List Int),
      Ground q loose [] XP w s₀ mg mb s₁.heap → YP w s₁.heap →
      s₁.heap.get? fa = some o → o.data = .func (docDef d.name d.params d.body d.scope pm cd doc) → s₁.heap.CodeRec cd d.name → mg d.name = some (.ref fa) →
      s₁.heap.get? a = some { cls := .type "list", data := .seq vs.toArray } → IntsAre vs ns → ns.length ≤ n → s₁.gens = #[] →
      codeAny (model l.prog w) callerA (.call (.ref fa) ⟨[.ref a], []⟩) (fun r s' => r = .ok (.ret (.bool true)) ∧ OldK s₁.heap s'.heap ∧ s'.os = s₁.os ∧ AllBare s'.gens) s₁) :
    WalkO q loose XP YP l.row.toRowW d [] (fun f vs => PySem.call f vs) := by
  intro w s₀ s₁ mg mb G Y fa o pm cd doc dV kV ho hd hcd hD hmg hg args vals as hpre hlay hrd hwl hlo
  obtain rfl : dV = .none := Dflts.none hD hdf
  obtain rfl : kV = .none := Dflts.noKw hD
  obtain ⟨a, vs, ns, rfl, rfl, hobj, hints, hlen⟩ := script_of hn hpre hwl
  refine enter_call (codeAny_mono (call w s₀ s₁ mg mb fa o pm cd doc a vs ns G Y ho (fd_plain hd) hcd hmg hobj hints hlen hg) fun r s' hq => ?_)
  obtain ⟨rfl, h2, h3, h4⟩ := hq
  exact ⟨.inl ⟨.bool true, .bool true, [], rfl, fun _ => rfl, .bool true, post_true l _, fun _ => ⟨List.Pairwise.nil, fun _ hm => (nomatch hm)⟩⟩, h2, h3, h4⟩

/-! ### rules over ANY heap (no ledger) from facts about the written part K: the library's own take a ledger (News) for what they write -/
section
variable {prog : Program} {w : World} {A : Around} {E : Value → Shared → Prop} {s : Shared} {K : Frag}

/-! the whole heap as the ledger: makes every rule that writes through a ledger a rule over any heap -/
end
end Att

namespace L2
open PySem PySem.Spec PyProof.Rows

theorem vals_ints : ∀ {vs : List Value} {ns : List Int}, IntsAre vs ns → Vals (ns.map V.int) vs
  | _, _, .nil => .nil
  | _, _, .cons n t h => .cons ⟨t, rfl⟩ (vals_ints h)

/-- nothing is tracked but the script, known to the object (or it is an object of the module) -/
def Only (H : Hp) : Prop := ∀ b, H b = none ∨ ∃ o xs, H b = some (.frz o (.lst xs))

/-- THE HEAD: the law's promise, at the heap behind the top. F, the promise of the law's def, may use that base is part of the heap (so K.In base, base.Ns mainGlobals mg stand in Mod) -/
theorem law_call {P : Program} {w : World} {K : PySem.W.Frag} {mg mb : Str → Option Value} {CX : CXT} {k : Nat} {fa a : Addr} {fd : FuncData} {x : Str} {sp : Sp} {s₁ : Shared} {vs : List Value} {ns : List Int}
    (KX : K.In s₁.heap) (hns : s₁.heap.Ns mainGlobals mg) (hb : s₁.heap.Ns builtinsNs mb) (hbb : ∀ x : Str, x ≠ "__name__" → mb x = bootBuiltins x) (hlim : s₁.heap.NoLimit) (hg : s₁.gens = #[])
    (ha : s₁.heap.get? a = some { cls := .type "list", data := .seq vs.toArray }) (hi : IntsAre vs ns) (hl : ns.length ≤ sizeLine) (hr : Room k callerA)
    (F : ∀ base : Heap, K.In base → base.Ns mainGlobals mg → FnOk P w K mg base CX k fa fd [x] sp) (hbind : ∀ (s : Shared) (u : Value), BindsTo s fd ⟨[u], []⟩ [(x, u)])
    (hsp : ∀ H : Hp, Only H → SqL K H a (ns.map V.int) → sp [.ref a] H (fun v _ => v = .bl true) fun _ _ _ => False)
    (hCX : ∀ H e s', CX [] H s₁ (fun _ _ _ => False) e s' → False) :
    codeAny (model P w) callerA (.call (.ref fa) ⟨[.ref a], []⟩) (fun r s' => r = .ok (.ret (.bool true)) ∧ OldK s₁.heap s'.heap ∧ s'.os = s₁.os ∧ AllBare s'.gens) s₁ := by
  have rv := vals_ints hi
  have lenV := hi.length
  -- from an abstract heap in which nothing but the script may be tracked
  have core : ∀ H : Hp, Only H → SqL K H a (ns.map V.int) → HOk P w H s₁.heap → (∀ b, H b ≠ none → b = a) → (H a ≠ none → K.lookup a = none) →
      codeAny (model P w) callerA (.call (.ref fa) ⟨[.ref a], []⟩) (fun r s' => r = .ok (.ret (.bool true)) ∧ OldK s₁.heap s'.heap ∧ s'.os = s₁.os ∧ AllBare s'.gens) s₁ := by
    intro H hO hS hok hA hK
    have base_of : ∀ {b : Addr} {o : Obj}, s₁.heap.get? b = some o → H b = none → (hidT s₁.heap H).get? b = some o := fun e n => hidT_get e n
    have noA : ∀ {b : Addr} {o : Obj} {es : Array DictEntry} {ep : Nat}, s₁.heap.get? b = some o → o.data = .dict es ep → H b = none := fun {b o es ep} e d => by
      cases q : H b with
      | none => rfl
      | some u =>
        have e' : b = a := hA b (by rw [q]; simp)
        subst e'
        rw [ha] at e; cases e
        have d' : Data.seq vs.toArray _ = Data.dict es ep := d
        cases d'
    have nsK : ∀ {b : Addr} {m : Str → Option Value}, s₁.heap.Ns b m → (hidT s₁.heap H).Ns b m := fun {b m} ⟨o, es, ep, e, d, r⟩ => ⟨o, es, ep, base_of e (noA e d), d, r⟩
    have hKb : K.In (hidT s₁.heap H) := fun b o e => base_of (KX b o e) (by
      cases q : H b with
      | none => rfl
      | some u =>
        have e' : b = a := hA b (by rw [q]; simp)
        subst e'
        rw [hK (by rw [q]; simp)] at e; cases e)
    have hM : Mod K mg (hidT s₁.heap H) := ⟨hKb, nsK hns, ⟨mb, nsK hb, hbb⟩, let ⟨mc, h1, h2⟩ := hlim; ⟨mc, nsK h1, h2⟩⟩
    have e0 : Env0 P w K mg (hidT s₁.heap H) callerA [] s₁ H := ⟨rfl, hM, fun b o e => of_hidT e, Nat.le_of_eq (hidT_size _ _), trivial, fun b hb => absurd (show b ∈ ([] : List Addr) from hb) (by simp), hok, .of_eq hg⟩
    refine codeAny_mono ((F _ hKb (nsK hns)).run callerA [] s₁ H ⟨[.ref a], []⟩ [.ref a] [.ref a] _ _ hr e0 (hbind s₁ (.ref a)) (.cons rfl .nil) (hsp H hO hS)) fun r s' h => ?_
    cases r with
    | error e => exact (hCX H e s' h).elim
    | ok fl =>
      cases fl with
      | next => exact False.elim h
      | brk => exact False.elim h
      | cont => exact False.elim h
      | ret u =>
        obtain ⟨v, H', os, bare, un, hok', r', q⟩ := h
        have q' : v = .bl true := q
        subst q'
        obtain rfl : u = Value.bool true := r'
        refine ⟨rfl, OldK.of_keep fun b o e => ?_, os, bare⟩
        cases q : H b with
        | none => exact un.keep b o e q (by intro z; exact absurd (show b ∈ ([] : List Addr) from z) (by simp)) (by simp)
        | some u =>
          rcases hO b with z | ⟨ob, xs, z⟩
          · rw [q] at z; cases z
          · have z2 := un.frzs b ob _ z
            obtain ⟨e1, _⟩ := hok b _ z
            obtain ⟨e2, _⟩ := hok' b _ z2
            rw [e] at e1; cases e1
            exact e2
  cases hk : K.lookup a with
  | some o =>
    -- the script is one of the module's own objects
    have e := KX a o hk
    rw [ha] at e
    cases e
    refine core (fun _ => none) (fun _ => .inl rfl) (.inr ⟨_, vs.toArray, _, hk, rfl, rfl, rfl, by rw [List.size_toArray, lenV]; exact hl, by simpa using rv⟩) (fun b u z => by have z' : (none : Option HO) = some u := z; cases z') (fun b z => absurd rfl z) fun z => absurd rfl z
  | none =>
    refine core (fun b => if b = a then some (.frz { cls := .type "list", data := .seq vs.toArray } (.lst (ns.map V.int))) else none) (fun b => ?_) (.inl (.inr ⟨{ cls := .type "list", data := .seq vs.toArray }, if_pos rfl⟩)) (fun b u z => ?_) (fun b z => ?_) fun _ => hk
    · by_cases hb : b = a
      · exact .inr ⟨_, _, if_pos hb⟩
      · exact .inl (if_neg hb)
    · by_cases hb : b = a
      · have z' := (if_pos hb).symm.trans z
        cases z'
        subst hb
        exact ⟨ha, by rw [List.length_map]; exact hl, vs, _, rv, ha⟩
      · have z' := (if_neg hb).symm.trans z
        cases z'
    · by_cases hb : b = a
      · exact hb
      · exact absurd (if_neg hb) z
end L2

namespace L2
open PySem PySem.Spec PyProof.Rows

/-- the goal that k_head leaves (case hc), from the law's promise. F gives the function object fd (K's own) once, then the promise over every base -/
theorem walk_of {l : PySem.W.OpenLaw} {n k : Nat} {q : Program} {loose : List Str} {XP : (Str → Option Value) → Heap → Prop} {YP : World → Heap → Prop} {d : DefRec} {K : Params → PySem.W.Frag} {CX : World → CXT} {sp : World → Sp} {x : Str}
    (hn : l.most = some n) (hn2 : n ≤ sizeLine) (hdf : d.params.defaults = []) (hr : Room k callerA)
    (hY : ∀ (w : World) (h : Heap), YP w h → (K w.params).In h)
    (F : ∀ (w : World) (mg : Str → Option Value) (fa : Addr) (h : Heap), (K w.params).In h → h.Ns mainGlobals mg → mg d.name = some (.ref fa) →
      ∃ fd : FuncData, (∀ (s : Shared) (u : Value), BindsTo s fd ⟨[u], []⟩ [(x, u)]) ∧
        ∀ base : Heap, (K w.params).In base → base.Ns mainGlobals mg → FnOk l.prog w (K w.params) mg base (CX w) k fa fd [x] (sp w))
    (hsp : ∀ (w : World) (H : Hp) (a : Addr) (ns : List Int), ns.length ≤ n → Only H → SqL (K w.params) H a (ns.map V.int) → sp w [.ref a] H (fun v _ => v = .bl true) fun _ _ _ => False)
    (hCX : ∀ (w : World) (H : Hp) (s : Shared) (e : Value) (s' : Shared), CX w [] H s (fun _ _ _ => False) e s' → False) :
    PySem.W.WalkO q loose XP YP l.row.toRowW d [] (fun f vs => PySem.call f vs) := by
  refine Att.attach_call hn hdf fun w s₀ s₁ mg mb fa o pm cd doc a vs ns G Y ho hd hcd hmg hobj hints hlen hg => ?_
  have KX := hY w _ Y
  obtain ⟨fd, hb, hF⟩ := F w mg fa _ KX G.T.g hmg
  exact law_call KX G.T.g G.T.b G.T.builtins G.T.nolimit hg hobj hints (Nat.le_trans hlen hn2) hr hF hb (fun H hO hS => hsp w H a ns hlen hO hS) fun H e s' => hCX w H s₁ e s'
end L2

/- THE LAST THEOREM (shape; LID, My.* are yours):
   My.Adr: a structure of the addresses that your layer names (classes, functions); My.Txt K t: a structure (Prop) of the equations over K;
   My.txt_mk : {K} {implicit addresses ..} (e1 : nsIn K mainGlobals "law" = some (some (.ref f))) (e2 : K.lookup f = some ⟨oc, od, .func (fnOf "law" "law" params body scope dV kV doc pm an cdv ct), sl⟩) (e3 : codeIn K cdv "law" = true) .. : ∃ t, My.Txt K t

set_option maxRecDepth 100000 in
set_option maxHeartbeats 0 in
theorem PySem.Challenge.cw_LID_holds : PySem.Challenge.rw_LID.Holds := by
  w_on; o_law; k_head; (case hw => w_witness2)
  k_fill
  refine L2.walk_of (l := PySem.Challenge.rw_LID) (n := 63) (k := 40) (x := "script") (CX := fun w => ..) (sp := fun _ => My.sp_law) rfl (by decide) rfl ⟨rfl, by decide, by decide⟩ (fun w h Y => PySem.W.kIn_of Y) ?F ?S ?C
  case F =>
    intro w mg fa h KX G hmg
    have T : ∃ t, My.Txt (L2.KOf KX) t := by
      dsimp only [L2.KOf]                          -- K must stand as «<heap const> w.params» for k_is
      refine' My.txt_mk ?e1 ?e2 ?e3 ..
      (case e1 => PySem.W.k_is)                    -- in the order: a name -> its address -> its object -> its parts
      (case e2 => PySem.W.k_is)
      ..
    obtain ⟨t, T⟩ := T
    have e0 := hmg.symm.trans (PySem.W.mg_of KX G T.law)
    cases e0                                       -- fa is the law's own address
    exact ⟨_, fun s u => .of_eq rfl, fun base kb nb => My.law_fn T kb nb⟩     -- if «.of_eq rfl» comes too early: refine' ⟨_, ?b, fun base kb nb => My.law_fn T kb nb⟩; exact fun s u => .of_eq rfl
  case S => exact fun w H a ns hl hO hS => ..
  case C => exact ..
(the tactic k_is has no namespace: write k_is) -/

/-! SHORT WORDS over the layer: a def of the text, its body, what a loop and a test want. -/
namespace L2
open PySem PySem.Spec PyProof.Rows

/-! ### the text by places -/
def defArgs (s : Stmt) : Arguments := match s with
  | .FunctionDef _ a _ _ _ _ _ _ _ _ => a
  | _ => { posonlyargs := [], args := [], vararg := none, kwonlyargs := [], kw_defaults := [], kwarg := none, defaults := [] }
def defBody (s : Stmt) : List Stmt := match s with
  | .FunctionDef _ _ b _ _ _ _ _ _ _ => b
  | _ => []
def defScope (s : Stmt) : Scope := match s with
  | .FunctionDef _ _ _ _ _ _ sc _ _ _ => sc
  | _ => { kind := .function, names := [], isGenerator := false, isCoroutine := false }

/-! ### no exception leaves a def -/
abbrev CX0 : CXT := fun _ _ _ _ _ _ => False
abbrev E0 : XK := fun _ _ _ => False
theorem pass0 {X : Cx} : Passes CX0 X E0 := fun _ _ _ _ _ _ _ h => h.elim

/-! ### a def (or method) of the text as it stands behind the top -/
structure Fun (K : PySem.W.Frag) (x qual : Str) (st : Stmt) (f : Addr) (fd : FuncData) : Prop where
  ex : ∃ (oc : Value) (od : Option Addr) (kV doc pm : Value) (an : Option Addr) (cdv ct : Value) (osl : Array (Option Value)),
    fd = PySem.W.fnOf x qual (defArgs st) (defBody st) (defScope st) .none kV doc pm an cdv ct ∧ K.lookup f = some ⟨oc, od, .func fd, osl⟩ ∧ PySem.W.codeIn K cdv qual = true
  kp : PySem.W.keepIn K (.ref f) = true
section
variable {P : Program} {w : World} {K : PySem.W.Frag} {mg : Str → Option Value} {base : Heap}
/-- THE RULE for a def: its body as a term of rules, and the reading of that term -/
theorem Fun.ok {x qual : Str} {st : Stmt} {f : Addr} {fd : FuncData} {N ps : List Str} {k : Nat} {sp : Sp} (F : Fun K x qual st f fd) (S : FnScope N ps (defScope st)) (len : ∀ vs H Q E, sp vs H Q E → vs.length = ps.length)
    (hbody : ∀ (cdv : Value) (A : Around) (outer : List Env) (s : Shared) (H : Hp) (vs : List V) (Q : VK) (E : XK), Room k (A.deeper (envOfC qual (defScope st) s.heap.objs.size f cdv)) → sp vs H Q E →
      ∃ t, PSs (cxOf CX0 P w K mg base N qual (defScope st) f cdv A outer s H E).nox (defBody st) t ∧ t { nx := fun _ H' => Q .non H', rt := Q } (start N vs) H) : FnOk P w K mg base CX0 (k + 1) f fd ps sp := by
  obtain ⟨oc, od, kV, doc, pm, an, cdv, ct, osl, rfl, lk, hcd⟩ := F.ex
  refine fn_of lk hcd S len fun A outer s H vs Q E hr hsp => ?_
  obtain ⟨t, h, q⟩ := hbody cdv A outer s H vs Q E hr hsp
  exact ⟨t, h.nox, q⟩
/-- how its arguments bind (no defaults): h is «fun _ _ _ _ _ _ us hl => match us, hl with | [_, _], _ => rfl», one _ a parameter -/
theorem Fun.binds {x qual : Str} {st : Stmt} {f : Addr} {fd : FuncData} {ps : List Str} (F : Fun K x qual st f fd)
    (h : ∀ (kV doc pm : Value) (an : Option Addr) (cdv ct : Value) (us : List Value), us.length = ps.length → bindArgs (PySem.W.fnOf x qual (defArgs st) (defBody st) (defScope st) .none kV doc pm an cdv ct) ⟨us, []⟩ = pure (ps.zip us)) : Binds K fd ps [] := by
  obtain ⟨oc, od, kV, doc, pm, an, cdv, ct, osl, rfl, lk, hcd⟩ := F.ex
  exact .all (h kV doc pm an cdv ct)
theorem fun_mk {x qual : Str} {st : Stmt} {f : Addr} {oc : Value} {od an : Option Addr} {osl : Array (Option Value)} {kV doc pm cdv ct : Value} (l : K.lookup f = some ⟨oc, od, .func (PySem.W.fnOf x qual (defArgs st) (defBody st) (defScope st) .none kV doc pm an cdv ct), osl⟩)
    (c : PySem.W.codeIn K cdv qual = true) (k : PySem.W.keepIn K (.ref f) = true) : Fun K x qual st f (PySem.W.fnOf x qual (defArgs st) (defBody st) (defScope st) .none kV doc pm an cdv ct) := ⟨⟨oc, od, kV, doc, pm, an, cdv, ct, osl, rfl, l, c⟩, k⟩
end
/-! ### expressions in short: the name that stands in the i-th slot -/
section
variable {X : Cx}
theorem pv (i : Nat) {x : Str} {pos : Pos} (hN : X.N[i]? = some x := by rfl) (hv : Vis X.env.scope x := by first | exact Or.inl rfl | exact Or.inr (Or.inl rfl) | exact Or.inr (Or.inr rfl)) (hd : (x == ("__debug__" : Str)) = false := by decide)
    (hcd : (x == ("__classdict__" : Str)) = false := by decide) : PE X (.Name x pos) (tVar i) := pe_var hN hv hd hcd
end

/-! ### tests -/
theorem iteF {A B : Prop} (h : B) : if false = true then A else B := by
  rw [if_neg Bool.false_ne_true]
  exact h
theorem iteT {A B : Prop} (h : A) : if true = true then A else B := by
  rw [if_pos rfl]
  exact h
theorem ite2 {c A B : Prop} [Decidable c] (h1 : c → A) (h2 : ¬ c → B) : if c then A else B := by
  by_cases h : c
  · rw [if_pos h]
    exact h1 h
  · rw [if_neg h]
    exact h2 h
theorem iteNS {c A B : Prop} [Decidable c] (hc : c) (h : B) : if (!decide c) = true then A else B := by
  rw [decide_eq_true hc]
  exact iteF h

/-! ### heaps -/
/-- all that was tracked is as it was -/
def Same (H H' : Hp) : Prop := ∀ b o, H b = some o → H' b = some o
theorem Same.refl (H : Hp) : Same H H := fun _ _ h => h
theorem Same.trans {H H1 H2 : Hp} (a : Same H H1) (b : Same H1 H2) : Same H H2 := fun c o h => b c o (a c o h)
theorem Same.free {H H' : Hp} (e : Same H H') {l : Addr} (h : H' l = Option.none) : H l = Option.none := by
  cases q : H l with
  | none => rfl
  | some o =>
    rw [e l o q] at h
    cases h
theorem Same.seq {K : PySem.W.Frag} {H H' : Hp} {a : Addr} {xs : List V} (e : Same H H') (h : SqL K H a xs) : SqL K H' a xs := by
  rcases h with (h | ⟨o, h⟩) | h
  · exact .inl (.inl (e _ _ h))
  · exact .inl (.inr ⟨o, e _ _ h⟩)
  · exact .inr h

end L2

set_option maxHeartbeats 4000000
set_option Elab.async false
set_option linter.all false
set_option maxRecDepth 100000
set_option maxHeartbeats 4000000
namespace Tw
open PySem L2
/-! what all laws use: a def of the text, heaps -/
theorem same_new {H : Hp} {p : Addr} (h : H p = none) (o : HO) : Same H (upd H p o) := fun b u q => by rw [upd_ne (ne_of_none q h)]; exact q
theorem same_set {H H' : Hp} {p : Addr} (s : Same H H') (h : H p = none) (o : HO) : Same H (upd H' p o) := fun b u q => by rw [upd_ne (ne_of_none q h)]; exact s b u q
theorem small {n : Nat} (h : n ≤ 4097) : n < sizeLine := Nat.lt_of_le_of_lt h (by decide)
theorem bt_len : bootBuiltins "len" = some (.builtin "len") := by decide +kernel
theorem bt_sum : bootBuiltins "sum" = some (.builtin "sum") := by decide +kernel
theorem bt_isinstance : bootBuiltins "isinstance" = some (.builtin "isinstance") := by decide +kernel
theorem bt_min : bootBuiltins "min" = some (.builtin "min") := by decide +kernel
theorem bt_int : bootBuiltins "int" = some (.type "int") := by decide +kernel
theorem bt_bool : bootBuiltins "bool" = some (.type "bool") := by decide +kernel
theorem bt_list : bootBuiltins "list" = some (.type "list") := by decide +kernel
theorem bt_tuple : bootBuiltins "tuple" = some (.type "tuple") := by decide +kernel
theorem bt_reversed : bootBuiltins "reversed" = some (.type "reversed") := by decide +kernel
/-- slices of lists of ints by natural numbers -/
theorem cut_nat (ns : List Int) (i j : Nat) : cutV (ns.map V.int) (some (i : Int)) (some (j : Int)) = ((ns.drop i).take (j - i)).map V.int := by
  unfold cutV
  rw [HT.sIx_nat, HT.sIx_nat, List.map_take, List.map_drop, List.length_map]
  rcases Nat.lt_or_ge ns.length i with h | h
  · rw [Nat.min_eq_right (Nat.le_of_lt h), List.drop_of_length_le (by simp), List.drop_of_length_le (by simp; omega)]
    simp
  · rw [Nat.min_eq_left h]
    rcases Nat.lt_or_ge ns.length j with q | q
    · rw [Nat.min_eq_right (Nat.le_of_lt q), List.take_of_length_le (by simp), List.take_of_length_le (by simp; omega)]
    · rw [Nat.min_eq_left q]
theorem cut_to (ns : List Int) (j : Nat) : cutV (ns.map V.int) none (some (j : Int)) = (ns.take j).map V.int := by
  unfold cutV
  rw [HT.sIx_nat, HT.sIx_none, List.map_take, List.length_map, List.drop_zero, Nat.sub_zero]
  rcases Nat.lt_or_ge ns.length j with q | q
  · rw [Nat.min_eq_right (Nat.le_of_lt q), List.take_of_length_le (by simp), List.take_of_length_le (by simp; omega)]
  · rw [Nat.min_eq_left q]
theorem cut_from (ns : List Int) (i : Nat) : cutV (ns.map V.int) (some (i : Int)) none = (ns.drop i).map V.int := by
  unfold cutV
  rw [HT.sIx_nat, HT.sIx_none, List.map_drop, List.length_map]
  rcases Nat.lt_or_ge ns.length i with h | h
  · rw [Nat.min_eq_right (Nat.le_of_lt h), List.drop_of_length_le (by simp), List.drop_of_length_le (by simp; omega)]
    simp
  · rw [Nat.min_eq_left h, List.take_of_length_le (by simp)]
/-- an item of a list of ints -/
theorem int_at {ns : List Int} {i : Nat} {x : V} (h : (ns.map V.int)[i]? = some x) : ∃ c, ns[i]? = some c ∧ x = .int c := by
  rw [List.getElem?_map] at h
  cases e : ns[i]? with
  | none => rw [e] at h; cases h
  | some c => rw [e] at h; exact ⟨c, rfl, (Option.some.inj h).symm⟩
theorem atI_int {ns : List Int} {i : Nat} {c : Int} (h : ns[i]? = some c) : atI (ns.map V.int) (i : Int) = some (.int c) := atI_nat (by rw [List.getElem?_map, h]; rfl)
structure Df (K : PySem.W.Frag) (mg : Str → Option Value) (x : Str) (st : Stmt) (ps : List Str) (f : Addr) (fd : FuncData) : Prop where
  F : Fun K x x st f fd
  b : Binds K fd ps []
  m : mg x = some (.ref f)
end Tw

set_option Elab.async false
set_option linter.all false
set_option maxRecDepth 100000
set_option maxHeartbeats 4000000
namespace Tw
/-- bit k of a block -/
def bit (b : Int) (k : Nat) : Int := b / 2 ^ k % 2
/-- the first n bits -/
def bits (b : Int) (n : Nat) : List Int := (List.range n).map (bit b)
/-- the ones among the first n bits -/
def ones (b : Int) (n : Nat) : Int := (bits b n).sum
theorem bits_length (b : Int) (n : Nat) : (bits b n).length = n := by simp [bits]
theorem bits_succ (b : Int) (n : Nat) : bits b (n + 1) = bits b n ++ [bit b n] := by simp [bits, List.range_succ]
theorem ones_zero (b : Int) : ones b 0 = 0 := rfl
theorem ones_succ (b : Int) (n : Nat) : ones b (n + 1) = ones b n + bit b n := by
  unfold ones; rw [bits_succ]; simp
theorem bits_get {b : Int} {n k : Nat} (h : k < n) : (bits b n)[k]? = some (bit b k) := by simp [bits, h]
theorem bit_cases (b : Int) (k : Nat) : bit b k = 0 ∨ bit b k = 1 := by
  unfold bit
  omega
theorem half_half (b : Int) (k : Nat) : b / 2 ^ k / 2 = b / 2 ^ (k + 1) := by
  rw [Int.ediv_ediv_of_nonneg (Int.pow_nonneg (by decide)), Int.pow_succ]
end Tw

set_option Elab.async false
set_option linter.all false
set_option maxRecDepth 100000
set_option maxHeartbeats 4000000
namespace Tw
/-! rows of bits, blocks, nets: the plain mathematics -/
def IsBits (ns : List Int) : Prop := ∀ b ∈ ns, b = 0 ∨ b = 1
theorem IsBits.tail {b : Int} {ns : List Int} (h : IsBits (b :: ns)) : IsBits ns := fun x hx => h x (.tail _ hx)
theorem IsBits.head {b : Int} {ns : List Int} (h : IsBits (b :: ns)) : b = 0 ∨ b = 1 := h b (.head _)
theorem IsBits.take {ns : List Int} (h : IsBits ns) (k : Nat) : IsBits (ns.take k) := fun x hx => h x (List.mem_of_mem_take hx)
theorem IsBits.drop {ns : List Int} (h : IsBits ns) (k : Nat) : IsBits (ns.drop k) := fun x hx => h x (List.mem_of_mem_drop hx)
theorem isBits_append {a b : List Int} (ha : IsBits a) (hb : IsBits b) : IsBits (a ++ b) := fun x hx => by
  rcases List.mem_append.mp hx with h | h
  · exact ha x h
  · exact hb x h
/-- the block of a list of bits -/
def blk : List Int → Int
  | [] => 0
  | b :: r => 2 * blk r + b
theorem blk_nonneg : ∀ {ns : List Int}, IsBits ns → 0 ≤ blk ns
  | [], _ => by simp [blk]
  | b :: r, h => by
    have := blk_nonneg h.tail
    have := h.head
    simp only [blk]
    omega
theorem bit_zero (b : Int) : bit b 0 = b % 2 := by simp [bit]
theorem bit_succ' (b : Int) (k : Nat) : bit b (k + 1) = bit (b / 2) k := by
  unfold bit
  rw [Int.ediv_ediv_of_nonneg (by decide), ← Int.pow_succ']
theorem bit_blk : ∀ {ns : List Int}, IsBits ns → ∀ k : Nat, bit (blk ns) k = (ns[k]?).getD 0
  | [], _, k => by simp [blk, bit]
  | b :: r, h, 0 => by
    have := h.head
    rw [bit_zero]
    simp only [blk, List.getElem?_cons_zero, Option.getD_some]
    omega
  | b :: r, h, k + 1 => by
    have hb := h.head
    rw [bit_succ', List.getElem?_cons_succ]
    have e : blk (b :: r) / 2 = blk r := by simp only [blk]; omega
    rw [e]
    exact bit_blk h.tail k
theorem ones_blk {ns : List Int} (h : IsBits ns) : ∀ k : Nat, ones (blk ns) k = (ns.take k).sum
  | 0 => by simp [ones_zero]
  | k + 1 => by
    rw [ones_succ, ones_blk h k, bit_blk h]
    by_cases hk : k < ns.length
    · rw [List.take_add_one, List.getElem?_eq_getElem hk]
      simp only [Option.toList_some, List.sum_append, List.sum_cons, List.sum_nil, Option.getD_some]
      omega
    · rw [List.take_of_length_le (by omega), List.take_of_length_le (by omega), List.getElem?_eq_none (by omega)]
      simp
/-- how many blocks n bits have -/
def many (n : Nat) : Nat := (n + 31) / 32
/-- block j of a row -/
def blkAt (ns : List Int) (j : Nat) : Int := blk ((ns.drop (32 * j)).take 32)
def packs (ns : List Int) : List Int := (List.range (many ns.length)).map (blkAt ns)
theorem packs_length (ns : List Int) : (packs ns).length = many ns.length := by simp [packs]
theorem packs_get {ns : List Int} {j : Nat} (h : j < many ns.length) : (packs ns)[j]? = some (blkAt ns j) := by simp [packs, h]
theorem seg_bits {ns : List Int} (h : IsBits ns) (j : Nat) : IsBits ((ns.drop (32 * j)).take 32) := (h.drop _).take _
theorem bit_at {ns : List Int} (h : IsBits ns) (j k : Nat) (hk : k < 32) : bit (blkAt ns j) k = (ns[32 * j + k]?).getD 0 := by
  unfold blkAt
  rw [bit_blk (seg_bits h j), List.getElem?_take_of_lt hk, List.getElem?_drop]
/-- all bits of the blocks -/
def unp (bs : List Int) : List Int := bs.flatMap fun b => bits b 32
theorem unp_snoc (bs : List Int) (b : Int) : unp (bs ++ [b]) = unp bs ++ bits b 32 := by simp [unp]
theorem unp_length : ∀ bs : List Int, (unp bs).length = 32 * bs.length
  | [] => rfl
  | b :: r => by
    have := unp_length r
    simp only [unp, List.flatMap_cons, List.length_append, bits_length, List.length_cons] at this ⊢
    omega
theorem unp_get : ∀ (bs : List Int) (i : Nat), (unp bs)[i]? = (bs[i / 32]?).map fun b => bit b (i % 32)
  | [], i => by simp [unp]
  | b :: r, i => by
    show (bits b 32 ++ unp r)[i]? = _
    by_cases hi : i < 32
    · rw [List.getElem?_append_left (by rw [bits_length]; exact hi), bits_get hi]
      have e1 : i / 32 = 0 := by omega
      have e2 : i % 32 = i := by omega
      rw [e1, e2]
      rfl
    · rw [List.getElem?_append_right (by rw [bits_length]; omega), bits_length, unp_get r (i - 32)]
      have e1 : i / 32 = (i - 32) / 32 + 1 := by omega
      have e2 : i % 32 = (i - 32) % 32 := by omega
      rw [e1, e2, List.getElem?_cons_succ]
theorem unp_packs {ns : List Int} (h : IsBits ns) : (unp (packs ns)).take ns.length = ns := by
  refine List.ext_getElem? fun i => ?_
  by_cases hi : i < ns.length
  · rw [List.getElem?_take_of_lt hi, unp_get, packs_get (by unfold many; omega)]
    rw [Option.map_some, bit_at h _ _ (by omega)]
    have e : 32 * (i / 32) + i % 32 = i := by omega
    rw [e, List.getElem?_eq_getElem hi]
    rfl
  · rw [List.getElem?_eq_none (by rw [List.length_take]; omega), List.getElem?_eq_none (by omega)]
/-- the height at a place of a row -/
def ht (ns : List Int) (k : Nat) : Int := 2 * (ns.take k).sum - k
theorem sum_take_add (ns : List Int) (a k : Nat) : (ns.take (a + k)).sum = (ns.take a).sum + ((ns.drop a).take k).sum := by
  rw [List.take_add, List.sum_append]
theorem ones_blkAt {ns : List Int} (h : IsBits ns) (j k : Nat) (hk : k ≤ 32) : ones (blkAt ns j) k = ((ns.drop (32 * j)).take k).sum := by
  unfold blkAt
  rw [ones_blk (seg_bits h j), List.take_take, Nat.min_eq_left hk]
theorem sum_block {ns : List Int} (h : IsBits ns) (j k : Nat) (hk : k ≤ 32) : (ns.take (32 * j)).sum + ones (blkAt ns j) k = (ns.take (32 * j + k)).sum := by
  rw [ones_blkAt h j k hk, sum_take_add]
/-! blocks again -/
theorem bits_cons (b : Int) (n : Nat) : bits b (n + 1) = b % 2 :: bits (b / 2) n := by
  unfold bits
  rw [List.range_succ_eq_map, List.map_cons, bit_zero, List.map_map]
  congr 1
  refine List.map_congr_left fun k _ => ?_
  exact bit_succ' b k
theorem blk_bits : ∀ (n : Nat) (b : Int), 0 ≤ b → b < 2 ^ n → blk (bits b n) = b
  | 0, b, h0, h1 => by
    have : b = 0 := by simp at h1; omega
    subst this
    rfl
  | n + 1, b, h0, h1 => by
    rw [Int.pow_succ] at h1
    rw [bits_cons, blk, blk_bits n (b / 2) (by omega) (by omega)]
    omega
theorem isBits_bits (b : Int) (n : Nat) : IsBits (bits b n) := fun x hx => by
  obtain ⟨k, _, rfl⟩ := List.mem_map.mp hx
  exact bit_cases b k
theorem isBits_unp (bs : List Int) : IsBits (unp bs) := fun x hx => by
  obtain ⟨b, _, h⟩ := List.mem_flatMap.mp hx
  exact isBits_bits b 32 x h
end Tw

set_option Elab.async false
set_option linter.all false
set_option maxRecDepth 100000
set_option maxHeartbeats 4000000
namespace L2
open PySem PySem.Spec PyProof.Rows

/-! ### two iterator records turn, a new object is laid and tracked -/
section
variable {X : Cx} {pins : List (Addr × Obj)} {σ : St} {H : Hp} {s : Shared} {h' : Heap}
end

/-! ### enumerate(xs) of a list, two names in the target -/
section
variable {X : Cx}
end
/-! ### sum of a list of ints; isinstance with one built-in class -/
section
variable {X : Cx}
theorem call_sum (hc : X.calm = true) : CallR X (.builtin "sum") (fun xs H Q => ∃ (p : Addr) (ns : List Int), xs = [.ref p] ∧ SqL X.K H p (ns.map V.int) ∧ Q (.int ns.sum) H) := by
  intro pins s σ H xs us Q I r h
  obtain ⟨p, ns, rfl, hq, q⟩ := h
  obtain ⟨u, rfl, rx⟩ := vals1 r
  cases rx
  obtain ⟨its, r', pl, hz⟩ := I.list hq
  have hi := intsAre_of r'
  obtain ⟨zs, e⟩ := hi.allInts.items
  refine sum_intListG (xs := zs) (I.ok.hd hc) (by rw [← e]; exact pl.isList) fun h' tk t' hk => ⟨.int ns.sum, H, I.kept (t' := tk) hk, ⟨t', ?_⟩, q⟩
  have e2 : numsOf (intItems zs).toList = ns := by rw [← e]; exact hi.numsOf
  rw [nums_intItems] at e2
  rw [← e2, preSum_eq, List.take_of_length_le (by simp)]
theorem call_isi : CallR X (.builtin "isinstance") (fun xs H Q => ∃ x T t b, xs = [x, .ty T] ∧ TyOf X.K H x t ∧ PySem.W.kitOne X.K t (.type T) = some b ∧ Q (.bl b) H) := by
  intro pins s σ H xs us Q I r h
  obtain ⟨x, T, t, b, rfl, ty, e, q⟩ := h
  obtain ⟨u, v, rfl, rx, rv⟩ := vals2 r
  obtain rfl : v = Value.type T := rv
  exact isinst_ok I rx ty e fun tk => ⟨.bl b, H, I.tok tk, rfl, q⟩
end
end L2

set_option Elab.async false
set_option linter.all false
set_option maxRecDepth 100000
set_option maxHeartbeats 4000000
namespace L2
open PySem PySem.Spec PyProof.Rows

/-! ### list comprehensions: one clause, a plain name, at most one test; no exception leaves -/
/-- the block of a comprehension as a context -/
def cxComp (X : Cx) (N : List Str) (scope : Scope) (cl : List (Str × Addr)) (C : Addr) (s : Shared) (H : Hp) (fp : List Addr) : Cx :=
  { X with N := N, s₀ := s, H₀ := H, env := compEnvC scope cl C X.env, outer := X.stack, ex := fp, fn := fun _ => false, pn := [], xe := fun _ _ => False }
/-- what of the text a comprehension must have: its own name x, the names that it takes from around with their slots there -/
structure CompOk (X : Cx) (x : Str) (caps : List (Str × Nat)) (scope : Scope) (cl : List (Str × Addr)) : Prop where
  kind : scope.kind = .function
  nocell : ∀ y ∈ scope.names, y.2 ≠ .cell
  names : ∀ y ∈ scope.names, y.2 = .local → scope.names.lookup y.1 = some .local
  hx : scope.names.lookup x = some .local
  clos : closureFor scope X.env = pure cl
  cls : ∀ y c, cl.lookup y = some c → X.env.cells.lookup y = some c
  has : ∀ y, ((relabel scope X.env).names.lookup y = some .cell ∨ (relabel scope X.env).names.lookup y = some .free) → ∃ c, cl.lookup y = some c
  nd : (x :: caps.map (·.1)).Nodup
  cap : ∀ y j, (y, j) ∈ caps → X.N[j]? = some y ∧ (X.env.scope.names.lookup y = some .cell ∨ X.env.scope.names.lookup y = some .free) ∧
    ((relabel scope X.env).names.lookup y = some .cell ∨ (relabel scope X.env).names.lookup y = some .free)
/-- the values taken from around -/
def capV (caps : List (Str × Nat)) (σ : St) : St := caps.map fun p => (σ[p.2]?).getD none
section
variable {X : Cx} {pins : List (Addr × Obj)} {σ : St} {H : Hp} {s : Shared}
theorem capV_length (caps : List (Str × Nat)) (σ : St) : (capV caps σ).length = caps.length := by simp [capV]

/-- the state at the block's entry: the list to be filled stands at D, the block's names at C -/
theorem Inv.comp {x : Str} {caps : List (Str × Nat)} {scope : Scope} {cl : List (Str × Addr)} {fp : List Addr} {h' : Heap} {tk : Nat} {m : Str → Option Value} {D C : Addr} (I : Inv X pins σ H s) (K0 : CompOk X x caps scope cl) (hf : ∀ b ∈ fp, FpOk X pins H b)
    (hfs : ∀ b ∈ fp, b < s.heap.objs.size) (hD : s.heap.objs.size ≤ D) (hC : s.heap.objs.size ≤ C) (hDC : D ≠ C) (hk : ∀ b o, s.heap.get? b = some o → h'.get? b = some o) (hn : h'.Ns C m) (hL : h'.get? D = some { cls := .type "list", data := .seq #[] }) :
    Inv (cxComp X (x :: caps.map (·.1)) scope cl C s H fp) [] (none :: capV caps σ) (upd H D (.lst [])) { s with heap := h', toks := tk } := by
  have hnD := I.hok.fresh hD
  have hnC := I.hok.fresh hC
  have lkc : ∀ y c, (cxComp X (x :: caps.map (·.1)) scope cl C s H fp).env.cells.lookup y = some c → X.env.cells.lookup y = some c := fun y c e => K0.cls y c e
  have clt : ∀ y c, X.env.cells.lookup y = some c → c < s.heap.objs.size := fun y c e => by
    obtain ⟨v, q⟩ := I.cell y c e
    exact q.lt
  have up : ∀ b u, H b = some u → upd H D (.lst []) b = some u := fun b u q => by rw [upd_ne (ne_of_none q hnD)]; exact q
  have ok : (cxComp X (x :: caps.map (·.1)) scope cl C s H fp).Ok := by
    refine ⟨I.ok.mod, K0.kind, I.ok.glob, I.ok.blt, hC, fun y z c h1 h2 => I.ok.inj y z c (lkc y c h1) (lkc z c h2), fun y hy => K0.has y hy, fun y c h => absurd (show false = true from h) Bool.false_ne_true, I.ok.hd, I.ok.frames, .inl rfl, fun b hb => ?_, I.bs, Nat.le_trans I.ok.bsz I.sz, fun b o e hb => ?_, fun b hb hz => ?_, I.stack, I.stkFree⟩
    · obtain ⟨f0, f1, f2, f3, f4, f5⟩ := hf b hb
      exact ⟨Nat.ne_of_lt (Nat.lt_of_lt_of_le (hfs b hb) hC), fun y c e => f4 y c (lkc y c e)⟩
    · obtain ⟨f0, f1, f2, f3, f4, f5⟩ := hf b hb
      rcases f3 with z | z
      · exact I.ok.noex b o e z
      · exact absurd (Nat.lt_of_lt_of_le (Nat.lt_of_lt_of_le (Heap.lt_size e) I.ok.bsz) z) (Nat.lt_irrefl _)
    · obtain ⟨f0, f1, f2, f3, f4, f5⟩ := hf b hb
      rcases List.mem_cons.mp (I.stkSub b hz) with z | z
      · exact f1 z
      · exact f2 z
  refine ⟨ok, rfl, I.bare, ?_, ⟨m, hn, fun i y v e1 e2 e3 => ?_⟩, fun y c e => ?_, ?_, fun y c e => ?_, fun p hp => absurd (show p ∈ ([] : List (Addr × Obj)) from hp) (by simp), ?_, ?_⟩
  · exact Un.laid hk hD hnD
  · cases i with
    | zero => cases e2
    | succ i =>
      have e1' : (caps.map (·.1))[i]? = some y := e1
      have e2' : (capV caps σ)[i]? = some (some v) := e2
      rw [List.getElem?_map] at e1'
      unfold capV at e2'
      rw [List.getElem?_map] at e2'
      cases ec : caps[i]? with
      | none => rw [ec] at e1'; cases e1'
      | some p =>
        rw [ec] at e1' e2'
        obtain ⟨y', j⟩ := p
        have ey : y' = y := Option.some.inj e1'
        subst ey
        have ev : (σ[j]?).getD none = some v := Option.some.inj e2'
        have ev' : σ[j]? = some (some v) := by
          cases q : σ[j]? with
          | none => rw [q] at ev; cases ev
          | some w => rw [q] at ev; exact congrArg some ev
        obtain ⟨c1, c2, c3⟩ := K0.cap y' j (List.mem_of_getElem? ec)
        obtain ⟨m0, hn0, hl⟩ := I.loc
        obtain ⟨u, r, l⟩ := hl j y' v c1 ev' (by rcases c2 with z | z; exact .inr (.inl z); exact .inr (.inr z))
        refine ⟨u, r, .inr ⟨c3, ?_⟩⟩
        rcases l with ⟨k, _⟩ | ⟨k, c, ec, z⟩
        · have k' : X.env.scope.names.lookup y' = some .local := k
          rcases c2 with z | z
          · rw [z] at k'; cases k'
          · rw [z] at k'; cases k'
        · obtain ⟨c', hc'⟩ := K0.has y' c3
          have e4 := K0.cls y' c' hc'
          rw [ec] at e4
          cases e4
          obtain ⟨o, ho, hd⟩ := z
          exact ⟨c, hc', o, hk _ _ ho, hd⟩
  · obtain ⟨v, o, ho, hd⟩ := I.cell y c (lkc y c e)
    exact ⟨v, o, hk _ _ ho, hd⟩
  · show upd H D (.lst []) C = none
    rw [upd_ne (Ne.symm hDC)]
    exact hnC
  · have hlt := clt y c (lkc y c e)
    rw [upd_ne (Nat.ne_of_lt (Nat.lt_of_lt_of_le hlt hD))]
    exact I.freeC y c (lkc y c e)
  · exact I.hok.laid hk hD ⟨Nat.zero_le _, [], _, .nil, hL⟩
  · show (none :: capV caps σ).length = (x :: caps.map (·.1)).length
    simp [capV_length]
/-- behind the block -/
theorem Inv.comped {N : List Str} {scope : Scope} {cl : List (Str × Addr)} {fp : List Addr} {C : Addr} {s' : Shared} {σ' : St} {H' : Hp} (I : Inv X pins σ H s) (hf : ∀ b ∈ fp, FpOk X pins H b)
    (J : Inv (cxComp X N scope cl C s H fp) [] σ' H' s') : Inv X pins σ H' s' := by
  refine I.call' (ch := fp) (J.os.trans rfl) J.base J.hok J.bare fun b hb => ?_
  obtain ⟨f0, f1, f2, f3, f4, f5⟩ := hf b hb
  exact ⟨f3, f1, f4, f5⟩

/-- the reading of a comprehension: cap: what it takes from around; tt: its test; te: its item -/
def rdComp (J : It) (cap : St) (tt : TT) (te : TE) (Qf : Addr → Hp → Prop) (H : Hp) : Prop :=
  ∀ D, H D = none → ∃ W : Nat → Nat → List V → Hp → Prop, (∃ m, W 0 m [] (upd H D (.lst []))) ∧ ∀ i m ys H1, W i m ys H1 →
    (J.stop i H1 ∧ Qf D H1) ∨ (J.go i H1 ∧ ∀ v H2, J.yld i H1 v H2 → tt (some v :: cap) H2 fun b H3 => if b = true then
      te (some v :: cap) H3 fun y H4 => H4 D = some (.lst ys) ∧ ys.length < sizeLine ∧ ∃ m', m' < m ∧ W (i + 1) m' (ys ++ [y]) (upd H4 D (.lst (ys ++ [y]))) else ∃ m', m' < m ∧ W (i + 1) m' ys H3)
/-- its tests: none, or one -/
def PTs (X : Cx) (ifs : List Expr) (tt : TT) : Prop :=
  ∀ (pins : List (Addr × Obj)) (s : Shared) (σ : St) (H : Hp) (Q : Bool → Hp → Prop), Inv X pins σ H s → tt σ H Q →
    wpAny (model X.prog X.w) X.A (forIn ifs true fun c r => if r = true then do let ok ← isTrue c X.env (eval c X.env); pure (ForInStep.yield ok) else pure (ForInStep.yield r)) (TP X pins σ Q) X.xe s
def tNoIf : TT := fun _ H Q => Q true H
theorem pts_nil : PTs X [] tNoIf := fun _ _ _ H _ I h => wpAny_tests_nil ⟨H, I, h⟩
theorem pts_one {c : Expr} {tt : TT} (h : PT X c tt) : PTs X [c] tt := fun pins s σ H Q I q => wpAny_tests_one (h pins s σ H Q I q)

theorem comp_core {x : Str} {px pos : Pos} {caps : List (Str × Nat)} {scope : Scope} {cl : List (Str × Addr)} {elt iter : Expr} {ifs : List Expr} {J : It} {fp : List Addr} {it : Addr} {tn : Nat → Heap → Prop} {tt : TT} {te : TE} {Qf : Addr → Hp → Prop}
    {RR : Value → Addr → Result → Shared → Prop} {E : Value → Shared → Prop} (I : Inv X pins σ H s) (hc : X.calm = true) (K0 : CompOk X x caps scope cl) (T : Turn X.prog X.w X.K (.Name x px) J fp it tn) (st : tn 0 s.heap) (hf : ∀ b ∈ fp, FpOk X pins H b)
    (ht : ∀ C s1 H1 fp1, PTs (cxComp X (x :: caps.map (·.1)) scope cl C s1 H1 fp1) ifs tt) (he : ∀ C s1 H1 fp1, PE (cxComp X (x :: caps.map (·.1)) scope cl C s1 H1 fp1) elt te) (rd : rdComp J (capV caps σ) tt te Qf H)
    (hRR : ∀ D C s' H' m, Inv X pins σ H' s' → s'.heap.Ns C m → FpOk X pins H' C → Qf D H' → RR (.ref D) C (.ok .next) s') :
    wpAny (model X.prog X.w) X.A (newList []) (fun acc s3 => wpAny (model X.prog X.w) X.A (newFunctionEnv scope X.env.globals cl [] X.env.qual none .none (some X.env)) (fun cenv s4 =>
      codeAny (model X.prog X.w) X.A (.compStart (.ListComp elt [⟨.Name x px, iter, ifs, 0⟩] scope pos) 0 (.ref it) acc { cenv with scope := relabel scope X.env }) (RR acc cenv.locals) s4) E s3) E s := by
  have hfs : ∀ b ∈ fp, b < s.heap.objs.size := fun b hb => by
    obtain ⟨o, e, _⟩ := T.obj _ _ st b hb
    exact Heap.lt_size e
  refine wpAny_newObj_type (wpAny_newFunctionEnv K0.nocell (by intro y hy; simp at hy) (fun h1 hn1 hb1 => ?_) K0.kind)
  dsimp only at hn1 hb1 ⊢
  obtain ⟨D, eD⟩ : ∃ D : Nat, D = s.heap.objs.size := ⟨_, rfl⟩
  obtain ⟨H2, eH2⟩ : ∃ g, g = s.heap.push { cls := .type "list", dict := none, data := .seq ([] : List Value).toArray } := ⟨_, rfl⟩
  rw [← eH2] at hn1 hb1 ⊢
  rw [← eD]
  have hC : H2.objs.size = D + 1 := by rw [eH2, Heap.size_push, eD]
  have hle : s.heap.objs.size ≤ H2.objs.size := by rw [hC, eD]; exact Nat.le_succ _
  have hDC : D ≠ H2.objs.size := by rw [hC]; exact Nat.ne_of_lt (Nat.lt_succ_self _)
  have hk : ∀ b o, s.heap.get? b = some o → h1.get? b = some o := fun b o e => by
    refine hb1.extBut b o (Nat.ne_of_lt (Nat.lt_of_lt_of_le (Heap.lt_size e) hle)) (Heap.get?_push_of_some _ ?_)
    rw [eH2]
    exact Heap.get?_push_of_some _ e
  have hL : h1.get? D = some { cls := .type "list", data := .seq #[] } := by
    refine hb1.extBut D _ (by omega) (Heap.get?_push_of_some _ ?_)
    rw [eH2, eD]
    exact Heap.get?_push_size _ rfl
  have st1 : tn 0 h1 := T.keep _ _ _ st fun b _ o e => hk b o e
  obtain ⟨W, ⟨m0, w0⟩, turn⟩ := rd D (I.hok.fresh (by omega))
  have loop : codeAny (model X.prog X.w) X.A (.compLoop (.ListComp elt [⟨.Name x px, iter, ifs, 0⟩] scope pos) 0 (.ref it) (.ref D) (compEnvC scope cl H2.objs.size X.env)) (RR (.ref D) H2.objs.size) { s with heap := h1, toks := s.toks + ([] : List (Str × Value)).length } := by
    refine codeAny_compLoop_tests (fun n s' => ∃ i ys sl H', Inv (cxComp X (x :: caps.map (·.1)) scope cl H2.objs.size s H fp) [] (sl :: capV caps σ) H' s' ∧ tn i s'.heap ∧ (∀ b ∈ fp, H' b = none) ∧ W i n ys H') ?_ m0
      ⟨0, [], none, _, I.comp K0 hf hfs (by omega) (by omega) hDC hk hn1 hL, st1, fun b hb => ?_, w0⟩
    · rintro n s3 ⟨i, ys, sl, H3, I3, st3, fr3, w3⟩
      have fpc : ∀ {H' : Hp} {pi : List (Addr × Obj)}, (∀ b ∈ fp, H' b = none) → (∀ p ∈ pi, p.1 ∉ fp) → ∀ b ∈ fp, FpOk (cxComp X (x :: caps.map (·.1)) scope cl H2.objs.size s H fp) pi H' b := fun {H' pi} hn hp b hb => by
        obtain ⟨f0, f1, f2, f3, f4, f5⟩ := hf b hb
        refine ⟨hn b hb, ?_, fun z => ?_, .inl hb, fun y c e => f4 y c (K0.cls y c e), fun p hpp z => ?_⟩
        · exact Nat.ne_of_lt (Nat.lt_of_lt_of_le (hfs b hb) hle)
        · rcases List.mem_cons.mp (I.stkSub b z) with q | q
          · exact f1 q
          · exact f2 q
        · exact hp p (by simpa [cxComp] using hpp) (by rw [z]; exact hb)
      have clear : ∀ {α : Type} {t : Sem α} {Q : α → Shared → Prop} {E' : Value → Shared → Prop} {s : Shared}, wpAny (model X.prog X.w) X.A t Q (fun _ _ => False) s → wpAny (model X.prog X.w) X.A t Q E' s := fun h => wpAny_mono h (fun _ _ z => z) fun _ _ z => z.elim
      rcases turn i n ys H3 w3 with ⟨stop, qf⟩ | ⟨go, step⟩
      · refine thn (T.done (cxComp X (x :: caps.map (·.1)) scope cl H2.objs.size s H fp) rfl rfl rfl hc i [] s3 _ H3 _ I3 (fpc fr3 (by simp)) st3 stop) fun r s4 ⟨hr, I4⟩ => ?_
        subst hr
        obtain ⟨m4, hn4, _⟩ := id I4.loc
        refine hRR D _ s4 H3 m4 (I.comped hf I4) hn4 ?_ qf
        have gC : s.heap.objs.size ≤ H2.objs.size := by omega
        exact I.fpOk gC I4.free
      · refine clear (thn (T.item (cxComp X (x :: caps.map (·.1)) scope cl H2.objs.size s H fp) rfl rfl rfl hc i [] s3 _ H3 (fun _ _ => False) I3 (fpc fr3 (by simp)) st3 go) fun r s4 ⟨u, hr, h4⟩ => ?_)
        subst hr
        refine clear (show wpAny (model X.prog X.w) X.A (pure () >>= fun _ => assign (.Name x px) (compEnvC scope cl H2.objs.size X.env) u) _ _ s4 from wpAny_bind (thn (h4 : wpAny (model X.prog X.w) X.A (pure ()) _ _ s4) fun _ s5 ⟨v, H5, I5, r5, y5, st5, fr5⟩ => ?_))
        have I5' := I5.pinned (fpc fr5 (by simp)) (T.obj _ _ st5)
        have hg : PG (cxComp X (x :: caps.map (·.1)) scope cl H2.objs.size s H fp) (.Name x px) (gName 0) := pg_name (i := 0) K0.nd rfl (Or.inl (lookup_relabel_local K0.hx)) (Or.inr (lookup_relabel_local K0.hx))
        refine thn (hg _ s5 (sl :: capV caps σ) H5 v u (fun σ2 H2 => σ2 = some v :: capV caps σ ∧ H2 = H5) I5' r5 (show _ ∧ _ from ⟨rfl, rfl⟩)) fun _ s6 ⟨σ6, H6, I6, e6, e7⟩ => ?_
        subst e6 e7
        have q6 := step v _ y5
        have again : ∀ {H7 : Hp} {s7 : Shared} {sl : Option V} {zs : List V} {m' : Nat}, Inv (cxComp X (x :: caps.map (·.1)) scope cl H2.objs.size s H fp) ([] ++ pinsAt fp s5.heap) (sl :: capV caps σ) H7 s7 → m' < n → W (i + 1) m' zs H7 →
            ∃ m, m < n ∧ ∃ i ys sl H', Inv (cxComp X (x :: caps.map (·.1)) scope cl H2.objs.size s H fp) [] (sl :: capV caps σ) H' s7 ∧ tn i s7.heap ∧ (∀ b ∈ fp, H' b = none) ∧ W i m ys H' := fun {H7 s7 sl zs m'} I7 hm w7 => by
          refine ⟨m', hm, i + 1, zs, sl, H7, I7.unpinned, T.keep _ _ _ st5 fun b hb o e => (I7.pin (b, o) (List.mem_append_right _ (List.mem_append_right _ (mem_pinsAt hb e)))).1, fun b hb => ?_, w7⟩
          obtain ⟨o, e, d⟩ := T.obj _ _ st5 b hb
          exact (I7.pin (b, o) (List.mem_append_right _ (List.mem_append_right _ (mem_pinsAt hb e)))).2.1
        refine clear (thn (ht H2.objs.size s H fp _ s6 _ H6 _ I6 q6) fun ok s7 ⟨H7, I7, q7⟩ => ?_)
        cases ok with
        | false =>
          obtain ⟨m', hm, w7⟩ := (show ∃ m', m' < n ∧ W (i + 1) m' ys H7 from q7)
          exact again I7 hm w7
        | true =>
          refine clear (thn (he H2.objs.size s H fp _ s7 _ H7 _ I7 q7) fun xv s8 ⟨y, H8, I8, r8, hD8, hz8, m', hm, w8⟩ => ?_)
          refine clear (thn (mt_append _ s8 _ H8 (.ref D) [y] (.ref D) [xv] (fun _ H9 => H9 = upd H8 D (.lst (ys ++ [y]))) I8 rfl (.cons r8 .nil) ⟨D, ys, y, rfl, rfl, hD8, hz8, rfl⟩) fun _ s9 ⟨_, H9, I9, _, e9⟩ => ?_)
          subst e9
          exact again I9 hm w8
    · rw [upd_ne (by rw [eD]; exact Nat.ne_of_lt (hfs b hb))]
      exact (hf b hb).1
  exact codeAny_compStart_list loop (T.self _ 0 _ _ _ st1 loop)

def tComp (wi : TI) (caps : List (Str × Nat)) (tt : TT) (te : TE) : TE := fun σ H Q => wi σ H fun J H1 => rdComp J (capV caps σ) tt te (fun D H' => Q (.ref D) H') H1
/-- a comprehension as a value -/
theorem pe_comp {x : Str} {px pos : Pos} {caps : List (Str × Nat)} {scope : Scope} {cl : List (Str × Addr)} {elt iter : Expr} {ifs : List Expr} {wi : TI} {tt : TT} {te : TE} (hc : X.calm = true) (K0 : CompOk X x caps scope cl) (hi : PI X (.Name x px) iter wi)
    (ht : ∀ C s1 H1 fp1, PTs (cxComp X (x :: caps.map (·.1)) scope cl C s1 H1 fp1) ifs tt) (he : ∀ C s1 H1 fp1, PE (cxComp X (x :: caps.map (·.1)) scope cl C s1 H1 fp1) elt te) (hs : ∀ x, foldedSetIterable iter X.env x = pure x := by intro _; rfl) :
    PE X (.ListComp elt [⟨.Name x px, iter, ifs, 0⟩] scope pos) (tComp wi caps tt te) := by
  intro pins s σ H Q I h
  rw [eval_ListComp]
  refine wpAny_comprehension_free (use := none) rfl hs K0.clos K0.kind K0.names (thn (hi pins s σ H _ I h) fun v s1 h1 => thn h1 fun itv s2 h2 => ?_)
  obtain ⟨it, fp, tn, J, H2, e, I2, T, st2, f2, rd⟩ := h2
  subst e
  refine comp_core (RR := fun acc C => compPost (model X.prog X.w) X.A X.xe none (EP X pins σ Q) acc C) I2 hc K0 T st2 f2 ht he rd ?_
  intro D C s' H' m I' hn fC q
  exact ⟨m, hn, fun h'' hs'' => ⟨.ref D, H', I'.turned (h' := h'') (t' := s'.toks) (fun b o hb e => hs''.extBut b o hb e) fC.1 fC.2.1 fC.2.2.2.1 fC.2.2.2.2.1 fC.2.2.2.2.2, rfl, q⟩⟩
end
/-! the facts of the text about a comprehension's names -/
theorem relabel_back {scope : Scope} {env : Env} {y : Str} {k : NameKind} (h : (relabel scope env).names.lookup y = some k) : ∃ k0, (y, k0) ∈ scope.names ∧ (k = k0 ∨ (k0 = .free ∧ k = .cell)) := by
  have h := PySem.mem_of_lookup h
  obtain ⟨⟨n, k0⟩, hm, e⟩ := List.mem_map.mp (show (y, k) ∈ scope.names.map _ from h)
  by_cases c : (k0 == NameKind.free && env.scope.kind == .function && env.kindOf n == some .cell) = true
  · have e' : (n, NameKind.cell) = (y, k) := by rw [← e]; exact (if_pos c).symm
    have c1 : k0 = .free := by
      simp only [Bool.and_eq_true] at c
      exact eq_of_beq c.1.1
    cases e'
    exact ⟨_, hm, .inr ⟨c1, rfl⟩⟩
  · have e' : (n, k0) = (y, k) := by rw [← e]; exact (if_neg c).symm
    cases e'
    exact ⟨_, hm, .inl rfl⟩
section
variable {X : Cx} {x : Str} {scope : Scope}
/-- it takes nothing from around -/
theorem CompOk.zero (hfree : ∀ y ∈ scope.names, y.2 ≠ .free := by decide) (nocell : ∀ y ∈ scope.names, y.2 ≠ .cell := by decide) (kind : scope.kind = .function := by rfl) (names : ∀ y ∈ scope.names, y.2 = .local → scope.names.lookup y.1 = some .local := by decide)
    (hx : scope.names.lookup x = some .local := by rfl) : CompOk X x [] scope [] := by
  refine ⟨kind, nocell, names, hx, closureFor_none hfree, fun y c e => (by cases e), fun y hy => ?_, by simp, fun y j h => nomatch h⟩
  rcases hy with hy | hy
  all_goals
    obtain ⟨k0, hm, e⟩ := relabel_back hy
    rcases e with e | ⟨e, _⟩
    · subst e
      first | exact absurd rfl (nocell _ hm) | exact absurd rfl (hfree _ hm)
    · subst e
      exact absurd rfl (hfree _ hm)
/-- it takes the one name y, which stands in slot j there -/
theorem CompOk.one {y : Str} {j : Nat} {c : Addr} (hN : X.N[j]? = some y) (hX : X.env.scope.names.lookup y = some .cell ∨ X.env.scope.names.lookup y = some .free) (ec : X.env.cells.lookup y = some c) (clos : closureFor scope X.env = pure [(y, c)])
    (hr : (relabel scope X.env).names.lookup y = some .cell ∨ (relabel scope X.env).names.lookup y = some .free)
    (hfree : ∀ z ∈ scope.names, z.2 = .free → z.1 = y := by decide) (nocell : ∀ y ∈ scope.names, y.2 ≠ .cell := by decide) (kind : scope.kind = .function := by rfl) (names : ∀ y ∈ scope.names, y.2 = .local → scope.names.lookup y.1 = some .local := by decide)
    (hx : scope.names.lookup x = some .local := by rfl) (nd : [x, y].Nodup := by decide) : CompOk X x [(y, j)] scope [(y, c)] := by
  have look : ([(y, c)] : List (Str × Addr)).lookup y = some c := by simp
  refine ⟨kind, nocell, names, hx, clos, fun z d e => ?_, fun z hz => ?_, nd, fun z i h => ?_⟩
  · have := PySem.mem_of_lookup e
    cases List.mem_singleton.mp this
    exact ec
  · have hz' : z = y := by
      rcases hz with hz | hz
      all_goals
        obtain ⟨k0, hm, e⟩ := relabel_back hz
        rcases e with e | ⟨e, _⟩
        · subst e
          first | exact absurd rfl (nocell _ hm) | exact hfree _ hm rfl
        · subst e
          exact hfree _ hm rfl
    subst hz'
    exact ⟨c, look⟩
  · cases List.mem_singleton.mp h
    exact ⟨hN, hX, hr⟩
end
end L2

set_option Elab.async false
set_option linter.all false
set_option maxRecDepth 100000
set_option maxHeartbeats 4000000
namespace L2
open PySem PySem.Spec PyProof.Rows

/-! ### range(a, b, c), c above 0 -/
/-- lo, lo + st, .. : n of them -/
def Its (lo st : Int) (n : Nat) : It := ⟨fun i _ => i < n, fun i H x H' => H' = H ∧ x = .int (lo + i * st), fun i _ => n ≤ i⟩
theorem turn_step {P : Program} {w : World} {K : PySem.W.Frag} {tg : Expr} (it : Addr) (lo st : Int) (n : Nat) : Turn P w K tg (Its lo st n) [it] it (fun i h => IsRangeIter h it (lo + (i : Nat) * st) ((n : Int) - (i : Nat)) st) where
  mem := by simp
  obj := fun i h q b hb => by
    have e : b = it := by simpa using hb
    subst e
    exact ⟨_, q, fun v z => by
      have z' : Data.fields _ = Data.cell v := z
      cases z'⟩
  keep := fun i h h' q k => k it (by simp) _ q
  item := by
    intro X hP hw hK hc i pins s σ H E I hf q hg
    subst hP hw hK
    obtain ⟨f0, f1, f2, f3, f4, f5⟩ := hf it (by simp)
    have W := Walks.range (prog := X.prog) (w := X.w) (I.ok.hd hc) it lo st n
    refine W.item i s _ _ hg q fun v h' tk hv q' kk => ?_
    obtain ⟨t, rfl⟩ := hv
    have I1 : Inv X pins σ H { s with heap := h', toks := tk } := I.turned (fun b o hb e => kk b o (by simpa using hb) e) f0 f1 f3 f4 f5
    exact ⟨_, rfl, go_of (s := { s with heap := h', toks := tk }) (n := "range_iterator") q' rfl rfl (by decide) ⟨.int (lo + i * st), H, I1, ⟨t, rfl⟩, ⟨rfl, rfl⟩, q', fun b hb => (hf b hb).1⟩⟩
  done := by
    intro X hP hw hK hc i pins s σ H E I hf q hg
    subst hP hw hK
    obtain ⟨f0, f1, f2, f3, f4, f5⟩ := hf it (by simp)
    exact wpAny_pyNext_range_end (I.ok.hd hc) q (by have : n ≤ i := hg; omega) fun h' eb => ⟨rfl, I.turned (t' := s.toks) (fun b o hb e => eb b o hb e) f0 f1 f3 f4 f5⟩
  self := fun _ _ _ _ _ q h => wpAny_pyIter_rangeiter q h
section
variable {X : Cx} {tg : Expr}
/-- range(0, b, 32) -/
def iRng3 (ta : TA) : TI := fun σ H R => ta σ H fun vs H1 => ∃ b : Nat, vs = [.int 0, .int (b : Int), .int 32] ∧ b < 536870912 ∧ R (Its 0 32 ((b + 31) / 32)) H1
theorem rngSize (b : Nat) : Builtin.Range.rangeSize 0 b 32 = (((b + 31) / 32 : Nat) : Int) := by
  unfold Builtin.Range.rangeSize
  rw [if_pos (by decide)]
  split <;> omega
theorem dand {p q : Bool} (hp : p = true) (hq : q = true) : (p && q) = true := by rw [hp, hq]; rfl
theorem rngSmall {b : Nat} (h : b < 536870912) : Builtin.Range.small 0 b 32 = true := by
  unfold Builtin.Range.small Builtin.Range.rangeFitsLong
  rw [rngSize]
  generalize hn : (((b + 31) / 32 : Nat) : Int) = n
  have h1 : n ≤ 16777216 := by omega
  have h0 : 0 ≤ n := by omega
  have e : (2 : Int) ^ 63 = 9223372036854775808 := by decide
  rw [e, if_pos (by decide)]
  refine dand (dand (dand (dand (by decide) (dand (decide_eq_true ?_) (decide_eq_true ?_))) (by decide)) (dand (decide_eq_true ?_) (decide_eq_true ?_))) ?_
  · omega
  · omega
  · omega
  · omega
  · rw [Bool.or_eq_true]
    exact .inr (dand (decide_eq_true (by omega)) (decide_eq_true (by omega)))
theorem pi_range3 {a b c : Expr} {ta : TA} {p pos : Pos} (hg : Gl X "range") (hm : X.mg "range" = none) (ha : PA X [a, b, c] ta) (hs : starEach [a, b, c] X.env = [(false, eval a X.env), (false, eval b X.env), (false, eval c X.env)] := by rfl)
    (hs2 : starEach [b, c] X.env = [(false, eval b X.env), (false, eval c X.env)] := by rfl) : PI X tg (.Call (.Name "range" p) [a, b, c] [] pos) (iRng3 ta) := by
  intro pins s σ H R I h
  refine Call_ (ld_blt I hg hm boot_range (PyProof.Rows.callWith_type1 (thn (ha pos pins s σ H _ I h) fun us s1 ⟨vs, H1, I1, r1, q1⟩ => ?_) (by rw [hs, hs2]) (by rw [hs2]; rfl)))
  obtain ⟨y, e, l1, q⟩ := q1
  subst e
  cases r1 with
  | cons r rr =>
    cases rr with
    | cons r' rr =>
      cases rr with
      | cons r'' rr =>
        cases rr
        obtain ⟨t, rfl⟩ := r
        obtain ⟨t', rfl⟩ := r'
        obtain ⟨t'', rfl⟩ := r''
        refine call_range_3 (by decide) ?_ (.inl (PyProof.noPylong_small (by omega)))
        refine wpAny_pyIter_range (IsRange.new ..) (rngSmall l1) ?_
        have I2 : Inv X pins σ H1 { s1 with heap := s1.heap.push { cls := .type "range", data := .fields #[.int 0 t, .int y t', .int 32 t''] }, toks := s1.toks } := I1.kept fun b o e => Heap.get?_push_of_some _ e
        refine ⟨(s1.heap.push { cls := .type "range", data := .fields #[.int 0 t, .int y t', .int 32 t''] }).objs.size, [(s1.heap.push { cls := .type "range", data := .fields #[.int 0 t, .int y t', .int 32 t''] }).objs.size], _, _, H1, rfl,
          I2.kept (t' := s1.toks) fun b o e => Heap.get?_push_of_some _ e, turn_step _ 0 32 ((y + 31) / 32), ?_, fun b hb => ?_, q⟩
        · have e1 : (0 : Int) + ((0 : Nat) : Int) * 32 = 0 := by decide
          have e2 : (((y + 31) / 32 : Nat) : Int) - ((0 : Nat) : Int) = Builtin.Range.rangeSize 0 y 32 := by rw [rngSize]; simp
          show IsRangeIter _ _ ((0 : Int) + ((0 : Nat) : Int) * 32) ((((y + 31) / 32 : Nat) : Int) - ((0 : Nat) : Int)) 32
          rw [e1, e2]
          exact Heap.get?_push_size _ rfl
        · have e : b = (s1.heap.push { cls := .type "range", data := .fields #[.int 0 t, .int y t', .int 32 t''] }).objs.size := by simpa using hb
          subst e
          exact I2.fpOk (Nat.le_refl _) (I2.hok.fresh (Nat.le_refl _))
end
/-- over range(a, b, c) -/
theorem for_step {lo st : Int} {n : Nat} {g : TG} {tb : TS} {D : Ends} {σ : St} {H : Hp} (Pv : Nat → St → Hp → Prop) (h0 : Pv 0 σ H)
    (hs : ∀ (i : Nat) σ H, i < n → Pv i σ H → g (.int (lo + i * st)) σ H fun σ2 H2 => tb { D with nx := Pv (i + 1), ct := Pv (i + 1), bk := D.nx } σ2 H2) (hd : ∀ σ H, Pv n σ H → D.nx σ H) :
    ∃ W : Nat → Nat → St → Hp → Prop, (∃ m, W 0 m σ H) ∧ ∀ i m σ H, W i m σ H →
      ((Its lo st n).stop i H ∧ D.nx σ H) ∨ ((Its lo st n).go i H ∧ ∃ N : St → Hp → Prop, (∀ σ' H', N σ' H' → ∃ m', m' < m ∧ W (i + 1) m' σ' H') ∧ ∀ x H', (Its lo st n).yld i H x H' → g x σ H' fun σ2 H2 => tb { D with nx := N, ct := N, bk := D.nx } σ2 H2) := by
  refine ⟨fun i m σ H => m = n - i ∧ i ≤ n ∧ Pv i σ H, ⟨n, by simp, Nat.zero_le _, h0⟩, ?_⟩
  rintro i m σ H ⟨rfl, hi, p⟩
  by_cases hlt : i < n
  · refine .inr ⟨hlt, Pv (i + 1), fun σ' H' p' => ⟨n - (i + 1), by omega, rfl, hlt, p'⟩, fun x H' y => ?_⟩
    obtain ⟨rfl, rfl⟩ := y
    exact hs i σ _ hlt p
  · have e : i = n := by omega
    subst e
    exact .inl ⟨Nat.le_refl _, hd σ H p⟩

/-! ### reversed(xs) of a list -/
def Itv (K : PySem.W.Frag) (a : Addr) (xs : List V) : It :=
  ⟨fun i H => SqL K H a xs ∧ i < xs.length, fun i H x H' => H' = H ∧ xs[xs.length - 1 - i]? = some x, fun i _ => xs.length ≤ i⟩
theorem turn_rev {P : Program} {w : World} {K : PySem.W.Frag} {tg : Expr} (a it : Addr) (xs : List V) : Turn P w K tg (Itv K a xs) [it] it (fun i h => i ≤ xs.length ∧ h.IsRevIter it a ((xs.length : Int) - 1 - (i : Nat))) where
  mem := by simp
  obj := fun i h st b hb => by
    have e : b = it := by simpa using hb
    subst e
    obtain ⟨_, o, e, c, d⟩ := st
    exact ⟨o, e, fun v z => by rw [d] at z; cases z⟩
  keep := fun i h h' st k => ⟨st.1, st.2.at fun o e => k it (by simp) o e⟩
  item := by
    intro X hP hw hK hc i pins s σ H E I hf st hg
    subst hP hw hK
    obtain ⟨hq, hi⟩ := hg
    obtain ⟨its, rv, p, hz⟩ := I.list hq
    obtain ⟨x, hx⟩ : ∃ x, xs[xs.length - 1 - i]? = some x := ⟨_, List.getElem?_eq_getElem (by omega)⟩
    obtain ⟨u, hu, ru⟩ := rv.get hx
    obtain ⟨f0, f1, f2, f3, f4, f5⟩ := hf it (by simp)
    obtain ⟨hle, st⟩ := st
    have e : (xs.length : Int) - 1 - (i : Nat) = ((xs.length - 1 - i : Nat) : Int) := by omega
    rw [e] at st
    refine wpAny_pyNext_rev_item st p.isList (x := u) (by simpa using hu) fun h' st' sb => ?_
    have I1 : Inv X pins σ H { s with heap := h' } := I.turned (t' := s.toks) (fun b o hb e => (sb.2 b hb).trans e) f0 f1 f3 f4 f5
    have e2 : ((xs.length - 1 - i : Nat) : Int) - 1 = (xs.length : Int) - 1 - ((i + 1 : Nat) : Int) := by omega
    rw [e2] at st'
    obtain ⟨o, e, c, d⟩ := id st'
    exact ⟨u, rfl, go_of (s := { s with heap := h' }) e c d (by decide) ⟨x, H, I1, ru, ⟨rfl, hx⟩, ⟨by omega, st'⟩, fun b hb => (hf b hb).1⟩⟩
  done := by
    intro X hP hw hK hc i pins s σ H E I hf st hg
    subst hP hw hK
    obtain ⟨f0, f1, f2, f3, f4, f5⟩ := hf it (by simp)
    obtain ⟨hle, st⟩ := st
    have e : (xs.length : Int) - 1 - (i : Nat) = -1 := by have : xs.length ≤ i := hg; omega
    rw [e] at st
    exact wpAny_pyNext_rev_end (I.ok.hd hc) st fun h' eb => ⟨rfl, I.turned (t' := s.toks) (fun b o hb e => eb b o hb e) f0 f1 f3 f4 f5⟩
  self := fun _ _ _ _ _ st h => wpAny_pyIter_revIter st.2 h
section
variable {X : Cx} {tg : Expr}
def iRev (K : PySem.W.Frag) (ta : TA) : TI := fun σ H R => ta σ H fun vs H1 => ∃ a xs, vs = [.ref a] ∧ SqL K H1 a xs ∧ R (Itv K a xs) H1
theorem pi_rev {a : Expr} {ta : TA} {p pos : Pos} (hg : Gl X "reversed") (hm : X.mg "reversed" = none) (ha : PA X [a] ta) (hv : bootBuiltins "reversed" = some (.type "reversed")) (hs : starEach [a] X.env = [(false, eval a X.env)] := by rfl) :
    PI X tg (.Call (.Name "reversed" p) [a] [] pos) (iRev X.K ta) := by
  intro pins s σ H R I h
  refine Call_ (ld_blt I hg hm hv (PyProof.Rows.callWith_type1 (thn (ha pos pins s σ H _ I h) fun us s1 ⟨vs, H1, I1, r1, q1⟩ => ?_) hs rfl))
  obtain ⟨b, xs, e, hq, q⟩ := q1
  subst e
  obtain ⟨u, rfl, rx⟩ := vals1 r1
  cases rx
  obtain ⟨its, rv, pl, hz⟩ := I1.list hq
  refine call_reversed_list pl.isList ?_
  have hl := rv.length
  have st : ({ s1 with heap := s1.heap.push (revObj b ((its.toArray.size : Int) - 1)) } : Shared).heap.IsRevIter s1.heap.objs.size b ((xs.length : Int) - 1 - ((0 : Nat) : Int)) := by
    refine ⟨_, Heap.get?_push_size _ rfl, rfl, ?_⟩
    show Data.fields #[.ref b, rawInt ((its.toArray.size : Int) - 1)] = _
    have e : (its.toArray.size : Int) - 1 = (xs.length : Int) - 1 - ((0 : Nat) : Int) := by simp; omega
    rw [e]
  refine wpAny_pyIter_revIter st ?_
  have I2 : Inv X pins σ H1 { s1 with heap := s1.heap.push (revObj b ((its.toArray.size : Int) - 1)) } := I1.kept (t' := s1.toks) fun c o e => Heap.get?_push_of_some _ e
  refine ⟨s1.heap.objs.size, [s1.heap.objs.size], _, Itv X.K b xs, H1, rfl, I2, turn_rev b _ xs, ⟨Nat.zero_le _, st⟩, fun c hc => ?_, q⟩
  have e : c = s1.heap.objs.size := by simpa using hc
  subst e
  exact I1.fpOk (Nat.le_refl _) (I1.hok.fresh (Nat.le_refl _))
end
/-- over reversed(xs), the list left as it is -/
theorem for_rev {K : PySem.W.Frag} {a : Addr} {xs : List V} {g : TG} {tb : TS} {D : Ends} {σ : St} {H : Hp} (Pv : Nat → St → Hp → Prop) (h0 : Pv 0 σ H) (hl : ∀ i σ H, i ≤ xs.length → Pv i σ H → SqL K H a xs)
    (hs : ∀ i x σ H, i < xs.length → xs[xs.length - 1 - i]? = some x → Pv i σ H → g x σ H fun σ2 H2 => tb { D with nx := Pv (i + 1), ct := Pv (i + 1), bk := D.nx } σ2 H2) (hd : ∀ σ H, Pv xs.length σ H → D.nx σ H) :
    ∃ W : Nat → Nat → St → Hp → Prop, (∃ m, W 0 m σ H) ∧ ∀ i m σ H, W i m σ H →
      ((Itv K a xs).stop i H ∧ D.nx σ H) ∨ ((Itv K a xs).go i H ∧ ∃ N : St → Hp → Prop, (∀ σ' H', N σ' H' → ∃ m', m' < m ∧ W (i + 1) m' σ' H') ∧ ∀ x H', (Itv K a xs).yld i H x H' → g x σ H' fun σ2 H2 => tb { D with nx := N, ct := N, bk := D.nx } σ2 H2) := by
  refine ⟨fun i m σ H => m = xs.length - i ∧ i ≤ xs.length ∧ Pv i σ H, ⟨xs.length, by simp, Nat.zero_le _, h0⟩, ?_⟩
  rintro i m σ H ⟨rfl, hi, p⟩
  by_cases hlt : i < xs.length
  · refine .inr ⟨⟨hl i σ H hi p, hlt⟩, Pv (i + 1), fun σ' H' p' => ⟨xs.length - (i + 1), by omega, rfl, hlt, p'⟩, fun x H' y => ?_⟩
    obtain ⟨rfl, hx⟩ := y
    exact hs i x σ _ hlt hx p
  · have e : i = xs.length := by omega
    subst e
    exact .inl ⟨Nat.le_refl _, hd σ H p⟩
end L2

set_option Elab.async false
set_option linter.all false
set_option maxRecDepth 100000
set_option maxHeartbeats 4000000
namespace L2
open PySem PySem.Spec PyProof.Rows

/-! ### == and != of lists and tuples -/
mutual
/-- what a value is as data -/
inductive DatV (K : PySem.W.Frag) (H : Hp) : V → PyData → Prop where
  | non : DatV K H .non .none
  | bl (b : Bool) : DatV K H (.bl b) (.bool b)
  | int (i : Int) : DatV K H (.int i) (.int i)
  | str (x : Str) : DatV K H (.str x) (.str x)
  | lst {a : Addr} {xs : List V} {ds : List PyData} (h : SqL K H a xs) (r : DatVs K H xs ds) : DatV K H (.ref a) (.list ds)
  | tup {a : Addr} {xs : List V} {ds : List PyData} (h : SqT K H a xs) (r : DatVs K H xs ds) : DatV K H (.ref a) (.tuple ds)
inductive DatVs (K : PySem.W.Frag) (H : Hp) : List V → List PyData → Prop where
  | nil : DatVs K H [] []
  | cons {x : V} {xs : List V} {d : PyData} {ds : List PyData} (h : DatV K H x d) (r : DatVs K H xs ds) : DatVs K H (x :: xs) (d :: ds)
end
section
variable {X : Cx} {pins : List (Addr × Obj)} {σ : St} {H : Hp} {s : Shared}
mutual
theorem DatV.reads (I : Inv X pins σ H s) {x : V} {d : PyData} {u : Value} : DatV X.K H x d → RelV x u → ∃ as, Reads s.heap u d as
  | .non, r => ⟨_, by cases (show u = Value.none from r); exact .none⟩
  | .bl b, r => ⟨_, by cases (show u = Value.bool b from r); exact .bool b⟩
  | .int i, r => by
    obtain ⟨t, rfl⟩ := r
    exact ⟨_, .int i t⟩
  | .str y, r => by
    obtain ⟨t, rfl⟩ := r
    exact ⟨_, .str y t⟩
  | .lst (a := a) h q, r => by
    cases (show u = Value.ref a from r)
    obtain ⟨its, rv, p, _⟩ := I.list h
    obtain ⟨as, ra⟩ := DatVs.reads I q rv
    obtain ⟨o, n, e, c, _, d⟩ := p
    exact ⟨_, .list e c d (by simpa using ra)⟩
  | .tup (a := a) h q, r => by
    cases (show u = Value.ref a from r)
    obtain ⟨its, rv, p, _⟩ := I.tuple h
    obtain ⟨as, ra⟩ := DatVs.reads I q rv
    obtain ⟨o, e, c, n, d⟩ := p
    exact ⟨_, .tuple e c d (by simpa using ra)⟩
theorem DatVs.reads (I : Inv X pins σ H s) {xs : List V} {ds : List PyData} {us : List Value} : DatVs X.K H xs ds → Vals xs us → ∃ as, ReadsAll s.heap us ds as
  | .nil, r => by
    cases r
    exact ⟨_, .nil⟩
  | .cons h q, r => by
    cases r with
    | cons r1 r2 =>
      obtain ⟨as, ra⟩ := DatV.reads I h r1
      obtain ⟨bs, rb⟩ := DatVs.reads I q r2
      exact ⟨_, .cons ra rb⟩
end
end
/-- two lists of ints; any two things by their data -/
def rEqL (K : PySem.W.Frag) : R2 := fun x y H Q => ∃ (a b : Addr) (ns ms : List Int), x = .ref a ∧ y = .ref b ∧ SqL K H a (ns.map V.int) ∧ SqL K H b (ms.map V.int) ∧ Q (.bl (decide (ns = ms))) H
def rEqP (K : PySem.W.Frag) : R2 := fun x y H Q => ∃ d1 d2 : PyData, DatV K H x d1 ∧ DatV K H y d2 ∧ SeqAt.shaped d1 = true ∧ SeqAt.shaped d2 = true ∧ Q (.bl (PyData.eqv d1 d2)) H
def rNeL (K : PySem.W.Frag) : R2 := fun x y H Q => ∃ (a b : Addr) (ns ms : List Int), x = .ref a ∧ y = .ref b ∧ SqL K H a (ns.map V.int) ∧ SqL K H b (ms.map V.int) ∧ Q (.bl (!decide (ns = ms))) H
def rNeP (K : PySem.W.Frag) : R2 := fun x y H Q => ∃ d1 d2 : PyData, DatV K H x d1 ∧ DatV K H y d2 ∧ SeqAt.shaped d1 = true ∧ SeqAt.shaped d2 = true ∧ Q (.bl (!PyData.eqv d1 d2)) H
section
variable {X : Cx}
theorem op_eqD (hu : X.A.units + 64 < cLine) : OpR X (compareOp .Eq) (fun x y H Q => rEqL X.K x y H Q ∨ rEqP X.K x y H Q) := by
  intro pins s σ H x y u v Q I rx ry h
  rcases h with ⟨a, b, ns, ms, rfl, rfl, ha, hb, q⟩ | ⟨d1, d2, h1, h2, e1, e2, q⟩
  · cases (show u = Value.ref a from rx)
    cases (show v = Value.ref b from ry)
    obtain ⟨us, r1, p1, _⟩ := I.list ha
    obtain ⟨ws, r2, p2, _⟩ := I.list hb
    exact PySem.W.ke_eq_ints p1.isList p2.isList (intsAre_of r1) (intsAre_of r2) hu ⟨.bl _, H, I, rfl, q⟩
  · obtain ⟨as, ra⟩ := h1.reads I rx
    obtain ⟨bs, rb⟩ := h2.reads I ry
    exact eq_dataH ra rb e1 e2 hu ⟨.bl _, H, I, rfl, q⟩
theorem op_neD (hu : X.A.units + 64 < cLine) : OpR X (compareOp .NotEq) (fun x y H Q => rNeL X.K x y H Q ∨ rNeP X.K x y H Q) := by
  intro pins s σ H x y u v Q I rx ry h
  rcases h with ⟨a, b, ns, ms, rfl, rfl, ha, hb, q⟩ | ⟨d1, d2, h1, h2, e1, e2, q⟩
  · cases (show u = Value.ref a from rx)
    cases (show v = Value.ref b from ry)
    obtain ⟨us, r1, p1, _⟩ := I.list ha
    obtain ⟨ws, r2, p2, _⟩ := I.list hb
    exact PySem.W.ke_ne_ints p1.isList p2.isList (intsAre_of r1) (intsAre_of r2) hu ⟨.bl _, H, I, rfl, q⟩
  · obtain ⟨as, ra⟩ := h1.reads I rx
    obtain ⟨bs, rb⟩ := h2.reads I ry
    exact ne_dataH ra rb e1 e2 hu ⟨.bl _, H, I, rfl, q⟩
end
end L2

set_option Elab.async false
set_option linter.all false
set_option maxRecDepth 100000
set_option maxHeartbeats 4000000
namespace Tw
open PySem L2
/-! ### comprehensions whose items read the heap as it was -/
theorem comp_rngS {lo : Int} {n : Nat} {cap : L2.St} {tt : TT} {te : TE} {Qf : Addr → Hp → Prop} {H : Hp} (f : Nat → Int) (hl : n < sizeLine)
    (htt : ∀ (z : Int) (H' : Hp) (Q : Bool → Hp → Prop), Q true H' → tt (some (.int z) :: cap) H' Q) (hte : ∀ (i : Nat) (H' : Hp) (Q : VK), i < n → Same H H' → Q (.int (f i)) H' → te (some (.int (lo + i)) :: cap) H' Q)
    (q : ∀ D, H D = none → Qf D (upd H D (.lst (((List.range n).map f).map V.int)))) : rdComp (Itr lo n) cap tt te Qf H := by
  intro D hD
  refine ⟨fun i m ys H1 => m = n - i ∧ i ≤ n ∧ ys = ((List.range i).map f).map V.int ∧ H1 = upd H D (.lst ys), ⟨_, rfl, Nat.zero_le _, rfl, rfl⟩, ?_⟩
  rintro i m ys H1 ⟨rfl, hi, rfl, rfl⟩
  by_cases hlt : i < n
  · refine .inr ⟨hlt, fun v H2 y => ?_⟩
    obtain ⟨rfl, rfl⟩ := y
    refine htt _ _ _ ?_
    rw [if_pos rfl]
    refine hte i _ _ hlt (same_new hD _) ⟨upd_same, ?_, n - (i + 1), by omega, rfl, hlt, ?_, ?_⟩
    · rw [List.length_map, List.length_map, List.length_range]
      omega
    · rw [List.range_succ, List.map_append, List.map_append]
      rfl
    · rw [upd_upd]
  · have e : i = n := by omega
    subst e
    exact .inl ⟨Nat.le_refl _, q D hD⟩
theorem comp_mapS {K : PySem.W.Frag} {a : Addr} {ns : List Int} {cap : L2.St} {tt : TT} {te : TE} {Qf : Addr → Hp → Prop} {H : Hp} (g : Int → Int) (hS : SqL K H a (ns.map V.int)) (hl : ns.length < sizeLine)
    (htt : ∀ (z : Int) (H' : Hp) (Q : Bool → Hp → Prop), Q true H' → tt (some (.int z) :: cap) H' Q) (hte : ∀ (z : Int) (H' : Hp) (Q : VK), Same H H' → Q (.int (g z)) H' → te (some (.int z) :: cap) H' Q)
    (q : ∀ D, H D = none → Qf D (upd H D (.lst ((ns.map g).map V.int)))) : rdComp (Itl K a) cap tt te Qf H := by
  intro D hD
  refine ⟨fun i m ys H1 => m = ns.length - i ∧ i ≤ ns.length ∧ ys = ((ns.take i).map g).map V.int ∧ H1 = upd H D (.lst ys), ⟨_, rfl, Nat.zero_le _, rfl, rfl⟩, ?_⟩
  rintro i m ys H1 ⟨rfl, hi, rfl, rfl⟩
  have hS1 : SqL K (upd H D (.lst (((ns.take i).map g).map V.int))) a (ns.map V.int) := (same_new hD _).seq hS
  by_cases hlt : i < ns.length
  · have hg : (ns.map V.int)[i]? = some (.int ns[i]) := by
      rw [List.getElem?_map, List.getElem?_eq_getElem hlt]
      rfl
    refine .inr ⟨⟨_, _, hS1, hg⟩, fun v H2 y => ?_⟩
    obtain ⟨rfl, y⟩ := y
    have e := y _ hS1
    rw [hg] at e
    cases e
    refine htt _ _ _ ?_
    rw [if_pos rfl]
    refine hte _ _ _ (same_new hD _) ⟨upd_same, ?_, ns.length - (i + 1), by omega, rfl, hlt, ?_, ?_⟩
    · rw [List.length_map, List.length_map, List.length_take]
      omega
    · rw [List.take_add_one, List.getElem?_eq_getElem hlt, List.map_append, List.map_append]
      rfl
    · rw [upd_upd]
  · have e : i = ns.length := by omega
    subst e
    rw [List.take_length]
    rw [List.take_length] at hS1
    exact .inl ⟨⟨_, hS1, by rw [List.length_map]; exact Nat.le_refl _⟩, q D hD⟩
end Tw
namespace Tw
open PySem L2
end Tw
namespace L2
open PySem PySem.Spec PyProof.Rows PySem.W
section
variable {X : Cx}
end
end L2
namespace Tw
open PySem L2
end Tw
namespace Tw
open PySem L2
/-- the items of a list of ints that pass a test -/
theorem comp_filtS {K : PySem.W.Frag} {a : Addr} {ns : List Int} {cap : L2.St} {tt : TT} {te : TE} {Qf : Addr → Hp → Prop} {H : Hp} (p : Int → Bool) (hS : SqL K H a (ns.map V.int)) (hl : ns.length < sizeLine)
    (htt : ∀ (z : Int) (H' : Hp) (Q : Bool → Hp → Prop), Same H H' → Q (p z) H' → tt (some (.int z) :: cap) H' Q) (hte : ∀ (z : Int) (H' : Hp) (Q : VK), Same H H' → Q (.int z) H' → te (some (.int z) :: cap) H' Q)
    (q : ∀ D, H D = none → Qf D (upd H D (.lst ((ns.filter p).map V.int)))) : rdComp (Itl K a) cap tt te Qf H := by
  intro D hD
  refine ⟨fun i m ys H1 => m = ns.length - i ∧ i ≤ ns.length ∧ ys = ((ns.take i).filter p).map V.int ∧ H1 = upd H D (.lst ys), ⟨_, rfl, Nat.zero_le _, rfl, rfl⟩, ?_⟩
  rintro i m ys H1 ⟨rfl, hi, rfl, rfl⟩
  have hS1 : SqL K (upd H D (.lst (((ns.take i).filter p).map V.int))) a (ns.map V.int) := (same_new hD _).seq hS
  by_cases hlt : i < ns.length
  · have hg : (ns.map V.int)[i]? = some (.int ns[i]) := by
      rw [List.getElem?_map, List.getElem?_eq_getElem hlt]
      rfl
    have et : ns.take (i + 1) = ns.take i ++ [ns[i]] := by
      rw [List.take_add_one, List.getElem?_eq_getElem hlt]
      rfl
    refine .inr ⟨⟨_, _, hS1, hg⟩, fun v H2 y => ?_⟩
    obtain ⟨rfl, y⟩ := y
    have e := y _ hS1
    rw [hg] at e
    cases e
    refine htt _ _ _ (same_new hD _) ?_
    have hz := List.length_filter_le p (ns.take i)
    rw [List.length_take] at hz
    by_cases hp : p ns[i] = true
    · rw [if_pos hp]
      refine hte _ _ _ (same_new hD _) ⟨upd_same, ?_, ns.length - (i + 1), by omega, rfl, hlt, ?_, ?_⟩
      · rw [List.length_map]
        omega
      · rw [et, List.filter_append, List.map_append, List.filter_cons_of_pos hp]
        rfl
      · rw [upd_upd]
    · rw [if_neg hp]
      refine ⟨ns.length - (i + 1), by omega, rfl, hlt, ?_, rfl⟩
      rw [et, List.filter_append, List.filter_cons_of_neg hp, List.filter_nil, List.append_nil]
  · have e : i = ns.length := by omega
    subst e
    rw [List.take_length]
    rw [List.take_length] at hS1
    exact .inl ⟨⟨_, hS1, by rw [List.length_map]; exact Nat.le_refl _⟩, q D hD⟩
end Tw

set_option Elab.async false
set_option linter.all false
set_option maxRecDepth 100000
set_option maxHeartbeats 4000000
namespace L2
open PySem PySem.Spec PyProof.Rows

/-! ### exceptions of own classes: raised, passing -/
theorem ObjOk.ex {P : Program} {w : World} {H : Hp} {h : Heap} {a : Addr} {o : HO} (x : ObjOk P w H h a o) : ∃ ob, h.get? a = some ob := by
  induction o with
  | lst xs => obtain ⟨z, its, n, r, e⟩ := x; exact ⟨_, e⟩
  | tup xs => obtain ⟨z, its, r, ob, e, c⟩ := x; exact ⟨_, e⟩
  | dK kvs => obtain ⟨z, y, vs, r, ob, es, ep, e, c⟩ := x; exact ⟨_, e⟩
  | dT kvs => obtain ⟨z, y, xs, r, ob, es, ep, e, c⟩ := x; exact ⟨_, e⟩
  | set S n => obtain ⟨ob, es, ep, t, e, c⟩ := x; exact ⟨_, e⟩
  | ins C dx fs => obtain ⟨d, z, ne, e, _⟩ := x; exact ⟨_, e⟩
  | own y => exact x
  | xd fs => obtain ⟨mA, ⟨od, es, ep, e, c⟩, r⟩ := x; exact ⟨_, e⟩
  | rng lo hi => obtain ⟨t, u, v, e⟩ := x; exact ⟨_, e⟩
  | frz ob u ih => exact ⟨_, x.1⟩
  | tbl ps => exact ⟨_, x⟩
  | met f y => exact ⟨_, x⟩
  | ext φ => exact x.2.1
/-- the heap B: what a passing exception leaves alone: all that stood there, frames aside, and all that is tracked -/
structure Cov (B : Heap) (fs : List Addr) (H H' : Hp) (h : Heap) : Prop where
  old : ∀ b o, h.get? b = some o → b ∉ fs → ∃ o', B.get? b = some o' ∧ (H b = none → o' = o)
  trk : ∀ b u, H' b = some u → ∃ o, B.get? b = some o
/-- how an exception of an own class lies behind a call -/
def CX1 (P : Program) (w : World) : CXT := fun outer H s E e s' => ∃ (ea C t : Addr) (B : Heap) (H' : Hp), e = .ref ea ∧ s'.os = s.os ∧ AllBare s'.gens ∧ Un (frs outer) [] H H' s.heap s'.heap ∧ HOk P w H' s'.heap ∧
    Heap.FlyingW B outer ea (.ref C) (.ref t) s'.heap ∧ Cov B (frs outer) H H' s.heap ∧ E (.ref C) none H'
section
variable {P : Program} {w : World} {K : PySem.W.Frag} {mg : Str → Option Value} {base : Heap} {N : List Str} {qual : Str} {scope : Scope} {f : Addr} {cd : Value} {A : Around} {outer : List Env} {s0 : Shared} {H0 : Hp} {E : XK}
abbrev X1 (P : Program) (w : World) (K : PySem.W.Frag) (mg : Str → Option Value) (base : Heap) (N : List Str) (qual : Str) (scope : Scope) (f : Addr) (cd : Value) (A : Around) (outer : List Env) (s0 : Shared) (H0 : Hp) (E : XK) : Cx :=
  cxOf (CX1 P w) P w K mg base N qual scope f cd A outer s0 H0 E
theorem young {b : Addr} {o : Obj} (q : s0.heap.get? b = some o) (hb : b ∉ frs outer) : b ∉ frs (envOfC qual scope s0.heap.objs.size f cd :: outer) := fun z => by
  have z' : b ∈ s0.heap.objs.size :: frs outer := z
  rcases List.mem_cons.mp z' with e | e
  · exact absurd (Heap.lt_size q) (by rw [e]; exact Nat.lt_irrefl _)
  · exact hb e
theorem raised {pins : List (Addr × Obj)} {σ : St} {H : Hp} {s : Shared} {h1 : Heap} {ea C : Addr} {vs : List Value} (I : Inv (X1 P w K mg base N qual scope f cd A outer s0 H0 E) pins σ H s) (m : Heap.MadeExcOf s.heap h1 ea (.ref C) vs) (q : E (.ref C) none H) :
    (X1 P w K mg base N qual scope f cd A outer s0 H0 E).xe (.ref ea) { s with heap := h1 } := by
  have stk : s.heap.FunFrames base (envOfC qual scope s0.heap.objs.size f cd :: outer) := I.stack
  have hin : ∀ env ∈ (envOfC qual scope s0.heap.objs.size f cd :: outer), ∀ b, env.frame = some b → b ∈ frs (envOfC qual scope s0.heap.objs.size f cd :: outer) := fun env he b hb => List.mem_filterMap.mpr ⟨env, he, hb⟩
  have U : Un (frs outer) [] H0 H s0.heap s.heap := I.base
  have nofr : ∀ b u, H b = some u → b ∉ frs (envOfC qual scope s0.heap.objs.size f cd :: outer) := fun b u e z => by
    have := I.stkFree b z
    rw [this] at e
    cases e
  have inB : ∀ b o, s.heap.get? b = some o → b ∉ frs (envOfC qual scope s0.heap.objs.size f cd :: outer) → (PySem.W.hideAll s.heap (frs (envOfC qual scope s0.heap.objs.size f cd :: outer))).get? b = some o := fun b o e n => PySem.W.hideAll_get _ e n
  show wpAny _ _ (leaving _ _) _ _ _
  refine wpAny_leaves_madeW (base := PySem.W.hideAll s.heap (frs (envOfC qual scope s0.heap.objs.size f cd :: outer))) I.ok.frames rfl (fun b o e => PySem.W.of_hideAll _ e) (PySem.W.funFrames_hide stk hin) m fun h2 t x1 x2 x3 x4 => ?_
  have kept := x1.1
  have fr : ∀ b o, s.heap.get? b = some o → b ∈ frs outer → ∃ sl, h2.get? b = some { o with slots := sl } := fun b o e hb => by
    obtain ⟨_, o', ho', nf⟩ := stk.mem (b := b) (List.mem_cons_of_mem _ hb)
    rw [e] at ho'
    cases ho'
    exact x4 b o (m.keeps _ _ e) nf
  refine ⟨ea, C, t, _, H, rfl, I.os, I.bare, ⟨fun b o e n hb hx => ?_, fun b o e n hb hx => ?_, U.free, fun b o e hx => ?_, U.tups, U.frzs, U.tbls⟩, fun b u e => ?_, x1, ⟨fun b o e hb => ?_, fun b u e => ?_⟩, q⟩
  · exact kept b o (inB b o (U.keep b o e n hb hx) (young e hb))
  · obtain ⟨sl, e1⟩ := U.slot b o e n hb hx
    obtain ⟨sl', e2⟩ := fr b _ e1 hb
    exact ⟨sl', e2⟩
  · obtain ⟨o1, e1⟩ := U.there b o e hx
    by_cases hb : b ∈ frs outer
    · obtain ⟨sl, e2⟩ := fr b _ e1 hb
      exact ⟨_, e2⟩
    · exact ⟨o1, kept b o1 (inB b o1 e1 (young e hb))⟩
  · refine (I.hok b u e).stay (fun c o hc e1 => kept c o (inB c o e1 ?_)) (fun _ r => r) fun _ _ r => r
    rcases hc with rfl | hc
    · exact nofr _ _ e
    · exact nofr _ _ hc
  · obtain ⟨o1, e1⟩ := U.there b o e (by simp)
    refine ⟨o1, inB b o1 e1 (young e hb), fun n => ?_⟩
    have := U.keep b o e n hb (by simp)
    rw [e1] at this
    exact Option.some.inj this
  · obtain ⟨o, e1⟩ := (I.hok b u e).ex
    exact ⟨o, inB b o e1 (nofr b u e)⟩
/-- an exception of a callee leaves this frame, too -/
theorem pass1 : Passes (CX1 P w) (X1 P w K mg base N qual scope f cd A outer s0 H0 E) E := by
  intro pins σ H s e s' I h
  obtain ⟨ea, C, t, B, H', rfl, os, bare, un, hok, fl, cov, q⟩ := h
  have U : Un (frs outer) [] H0 H s0.heap s.heap := I.base
  show wpAny _ _ (leaving _ _) _ _ _
  refine wpAny_leaves_onW (base := B) I.ok.frames rfl fl fun h2 x1 x2 => ?_
  have kept := x1.1
  have fr : ∀ b o, s'.heap.get? b = some o → b ∈ frs outer → ∃ sl, h2.get? b = some { o with slots := sl } := fun b o e hb => by
    obtain ⟨_, o', ho', nf⟩ := fl.2.2.1.mem (b := b) (List.mem_cons_of_mem _ hb)
    rw [e] at ho'
    cases ho'
    exact x2 b o e nf
  refine ⟨ea, C, t, B, H', rfl, os.trans I.os, bare, ⟨fun b o e n hb hx => ?_, fun b o e n hb hx => ?_, fun b o e n hx => ?_, fun b o e hx => ?_, fun b xs e => un.tups b xs (U.tups b xs e), fun b o u e => un.frzs b o u (U.frzs b o u e), fun b ps e => ?_⟩, fun b u e => ?_, x1, ⟨fun b o e hb => ?_, cov.trk⟩, q⟩
  · obtain ⟨o', e2, z⟩ := cov.old b o (U.keep b o e n hb hx) (young e hb)
    rw [z (U.free b o e n hx)] at e2
    exact kept b o e2
  · obtain ⟨sl, e1⟩ := U.slot b o e n hb hx
    obtain ⟨sl', e2⟩ := un.slot b _ e1 (U.free b o e n hx) (List.mem_cons_of_mem _ hb) hx
    obtain ⟨sl2, e3⟩ := fr b _ e2 hb
    exact ⟨sl2, e3⟩
  · obtain ⟨o1, e1⟩ := U.there b o e hx
    exact un.free b o1 e1 (U.free b o e n hx) hx
  · obtain ⟨o1, e1⟩ := U.there b o e hx
    by_cases hb : b ∈ frs outer
    · obtain ⟨o2, e2⟩ := un.there b o1 e1 hx
      obtain ⟨sl, e3⟩ := fr b _ e2 hb
      exact ⟨_, e3⟩
    · obtain ⟨o', e2, _⟩ := cov.old b o1 e1 (young e hb)
      exact ⟨o', kept b o' e2⟩
  · obtain ⟨m1, e1⟩ := U.tbls b ps e
    obtain ⟨m2, e2⟩ := un.tbls b _ e1
    exact ⟨m1 ++ m2, by rw [e2, Array.append_assoc]⟩
  · refine (hok b u e).stay (fun c o hc e1 => ?_) (fun _ r => r) fun _ _ r => r
    have ht : ∃ o, B.get? c = some o := by
      rcases hc with rfl | hc
      · exact cov.trk _ _ e
      · exact cov.trk _ _ hc
    obtain ⟨o1, e2⟩ := ht
    have := fl.1 c o1 e2
    rw [e1] at this
    cases this
    exact kept c o e2
  · obtain ⟨o1, e1⟩ := U.there b o e (by simp)
    obtain ⟨o', e2, z⟩ := cov.old b o1 e1 (young e hb)
    refine ⟨o', e2, fun n => ?_⟩
    have := U.keep b o e n hb (by simp)
    rw [e1] at this
    rw [z (U.free b o e n (by simp))]
    exact Option.some.inj this
theorem passOwn : PassesOwn (model P w) (X1 P w K mg base N qual scope f cd A outer s0 H0 E).A (X1 P w K mg base N qual scope f cd A outer s0 H0 E).env (X1 P w K mg base N qual scope f cd A outer s0 H0 E).xe := PassesOwn.leaving
end
section
variable {P : Program} {w : World} {K : PySem.W.Frag} {mg : Str → Option Value} {base : Heap}
/-- the rule for a def that may raise -/
theorem Fun.ok1 {x qual : Str} {st : Stmt} {f : Addr} {fd : FuncData} {N ps : List Str} {k : Nat} {sp : Sp} (F : Fun K x qual st f fd) (S : FnScope N ps (defScope st)) (len : ∀ vs H Q E, sp vs H Q E → vs.length = ps.length)
    (hbody : ∀ (cdv : Value) (A : Around) (outer : List Env) (s : Shared) (H : Hp) (vs : List V) (Q : VK) (E : XK), Room k (A.deeper (envOfC qual (defScope st) s.heap.objs.size f cdv)) → sp vs H Q E →
      ∃ t, PSs (X1 P w K mg base N qual (defScope st) f cdv A outer s H E) (defBody st) t ∧ t { nx := fun _ H' => Q .non H', rt := Q } (start N vs) H) : FnOk P w K mg base (CX1 P w) (k + 1) f fd ps sp := by
  obtain ⟨oc, od, kV, doc, pm, an, cdv, ct, osl, rfl, lk, hcd⟩ := F.ex
  exact fn_of lk hcd S len fun A outer s H vs Q E hr hsp => hbody cdv A outer s H vs Q E hr hsp
end
/-! ### an own class under ValueError -/
abbrev bmV : List Value := [.type "ValueError", .type "Exception", .type "BaseException", .type "object"]
structure Exc (K : PySem.W.Frag) (mg : Str → Option Value) (x : Str) (C : Addr) : Prop where
  m : mg x = some (.ref C)
  q : PySem.W.excIn K C bmV "ValueError.__new__" = true
theorem exc_obj {K : PySem.W.Frag} {h : Heap} {C : Addr} (X : K.In h) (q : PySem.W.excIn K C bmV "ValueError.__new__" = true) :
    ∃ bm N nm qn bs hdct sn sub ab col dd k0 k1 k2 k3 k5 mN, h.get? C = some (excClassObj nm qn C N bs bm hdct sn sub ab col dd k0 k1 k2 k3 k5 "ValueError.__new__") ∧ h.Ns N mN ∧ mN "__init__" = none ∧ OwnTail h bmV bm := by
  unfold PySem.W.excIn at q
  split at q
  · rename_i dd cd sl ho
    split at q
    · rename_i C' bm k0 k1 k2 k3 n k5 hm hs
      simp only [Bool.and_eq_true, beq_iff_eq, Bool.not_eq_true'] at q
      obtain ⟨⟨⟨⟨⟨rfl, rfl⟩, hdel⟩, ht⟩, hok⟩, hni⟩ := q
      obtain ⟨nm, bs, mro, ns, qn, hd, sn, sub, ab, col, del⟩ := cd
      dsimp only at hm hdel hok hni
      subst hm hdel
      have hsl : sl = #[k0, k1, k2, k3, some (.builtin "ValueError.__new__"), k5] := by
        obtain ⟨l⟩ := sl
        simp only at hs
        rw [hs]
      subst hsl
      exact ⟨bm, ns, nm, qn, bs, hd, sn, sub, ab, col, dd, k0, k1, k2, k3, k5, _, X _ _ ho, .of_isNs (PySem.W.isNs_of_in X hok), PySem.W.nsMap_none_of_in X hok hni, PySem.W.tail_of_in X ht⟩
    · cases q
  · cases q
section
variable {P : Program} {w : World} {K : PySem.W.Frag} {mg : Str → Option Value} {base : Heap} {N : List Str} {qual : Str} {scope : Scope} {f : Addr} {cd : Value} {A : Around} {outer : List Env} {s0 : Shared} {H0 : Hp} {E : XK}
/-- raise C(a) -/
def tRaise (C : Addr) (E : XK) (ta : TA) : TS := fun _ σ H => ta σ H fun vs H1 => vs.length ≤ sizeLine ∧ E (.ref C) none H1
theorem ps_raise {x : Str} {C : Addr} {a : Expr} {ta : TA} {np cpos pos : Pos} (e : Exc K mg x C) (hg : Gl (X1 P w K mg base N qual scope f cd A outer s0 H0 E) x) (ha : PA (X1 P w K mg base N qual scope f cd A outer s0 H0 E) [a] ta)
    (hdb : (x == ("__debug__" : Str)) = false := by decide)
    (he : starEach [a] (X1 P w K mg base N qual scope f cd A outer s0 H0 E).env = [(false, eval a (X1 P w K mg base N qual scope f cd A outer s0 H0 E).env)] := by rfl) :
    PS (X1 P w K mg base N qual scope f cd A outer s0 H0 E) (.Raise (some (.Call (.Name x np) [a] [] cpos)) none pos) (tRaise C E ta) := by
  intro pins s σ H D I h
  obtain ⟨bm, N', nm, qn, bs, hdct, sn, sub, ab, col, dd, k0, k1, k2, k3, k5, mN, hC, hN, hni, T⟩ := exc_obj I.mod.kin e.q
  refine wpAny_Raise_call_subU (C := C) (nm := nm) (q := qn) (N := N') (bs := bs) (bm := bm) (hdct := hdct) (sn := sn) (sub := sub) (ab := ab) (col := col) (dd := dd) (k0 := k0) (k1 := k1) (k2 := k2) (k3 := k3) (k5 := k5)
    PySem.F.excBase_ValueError PySem.F.excBase_ValueError.hasB PySem.F.excBase_ValueError (mN := mN) (T.hasType PySem.F.excBase_ValueError.hasBase) (I.ok.hd rfl) (by rw [he]; rfl) hni (ld_glob I hg e.m ⟨rfl, ?_⟩ hdb)
  have h2 := ha cpos pins s σ H _ I h
  rw [he] at h2 ⊢
  refine Calls.evalArgs_plain (thn h2 fun us s2 ⟨vs, H2, I2, r2, q1, q2⟩ => ⟨rfl, ?_, I2.bk _ _ hC, hN.keeps I2.bk, T.keeps I2.bk, fun h' ea m => raised I2 m q2⟩)
  rw [← r2.length]
  exact q1
end
/-! ### isinstance(e, C) of an exception -/
/-- an exception of the class at C -/
def excO (ea C : Addr) : HO := .ext fun h => ∃ o vs, h.get? ea = some o ∧ o.cls = .ref C ∧ o.data = .fields vs
/-- what of the text an own exception class has, as far as an instance is asked for its class -/
structure ExcK (K : PySem.W.Frag) (C : Addr) : Prop where
  dct : PySem.W.hasDictIn K C = true
  ga : PySem.W.findIn K (.ref C) "__getattribute__" = some (some (.builtin "BaseException.__getattribute__"))
  nga : PySem.W.findIn K (.ref C) "__getattr__" = some none
  cl : PySem.W.findIn K (.ref C) "__class__" = some (some (.builtin "object.__class__"))
  gt : PySem.W.specialIn K (.builtin "object.__class__") "__get__" = some (some (.builtin "getset_descriptor.__get__"))
  tk : PySem.W.takesIn K (.builtin "object.__class__") = some true
  mo : PySem.W.mroIn K C (.type "object") = some true
  mb : PySem.W.mroIn K C (.type "BaseException") = some true
/-! ### try: f(..) except C as e: .. -/
def Cx.suite (X : Cx) (ea : Addr) : Cx := { X with A := X.A.mark (some (.ref ea)), calm := false, xe := fun _ _ => False }
section
variable {X : Cx} {pins : List (Addr × Obj)} {σ : St} {H : Hp} {s : Shared} {ea : Addr}
theorem Cx.Ok.suite (ok : X.Ok) : (X.suite ea).Ok :=
  ⟨ok.mod, ok.kind, ok.glob, ok.blt, ok.above, ok.inj, ok.has, ok.cab, fun z => absurd z Bool.false_ne_true, ok.frames, ok.stk, ok.exf, ok.bs, ok.bsz, ok.noex, ok.exfs, ok.funs, ok.frf⟩
theorem Inv.suite (I : Inv X pins σ H s) : Inv (X.suite ea) pins σ H s := ⟨I.ok.suite, I.os, I.bare, I.base, I.loc, I.cell, I.free, I.freeC, I.pin, I.hok, I.len⟩
theorem Inv.unsuite (ok : X.Ok) (I : Inv (X.suite ea) pins σ H s) : Inv X pins σ H s := ⟨ok, I.os, I.bare, I.base, I.loc, I.cell, I.free, I.freeC, I.pin, I.hok, I.len⟩
/-- the name goes -/
theorem name_goes {M : Model} {A : Around} {E : Value → Shared → Prop} {i : Nat} {n : Str} {pos : Pos} {Q : Unit → Shared → Prop} (I : Inv X pins σ H s) (hN : X.N.Nodup) (hi : X.N[i]? = some n) (hl : X.env.scope.names.lookup n = some .local)
    (h : ∀ s', Inv X pins (σ.set i none) H s' → Q () s') : wpAny M A (do bindName X.env n .none; unbindBehindTheSuite X.env n pos) Q E s := by
  obtain ⟨m, hn, hloc⟩ := id I.loc
  have hcls : (X.env.scope.kind == .class || (X.env.scope.kind == .module && X.env.locals != X.env.globals)) = false := by rw [I.ok.kind]; rfl
  have hiσ : i < σ.length := by rw [I.len]; exact (List.getElem?_eq_some_iff.mp hi).1
  have cne := I.cne
  obtain ⟨oL, _, _, hoL, _⟩ := id hn
  refine wpAny_nameGoes_keeps hl hn hcls fun h' v hn' hs => ?_
  have old : ∀ b o, X.s₀.heap.get? b = some o → b ≠ X.env.locals := fun b o e => Nat.ne_of_lt (Nat.lt_of_lt_of_le (Heap.lt_size e) I.ok.above)
  refine h _ ⟨I.ok, I.os, I.bare, ⟨fun b o e n' hb hx => ?_, fun b o e n' hb hx => ?_, I.base.free, fun b o e hx => ?_, I.base.tups, I.base.frzs, I.base.tbls⟩, ⟨_, hn', fun j y v' e1 e2 e3 => ?_⟩, fun y c e => ?_, I.free, I.freeC, fun p hp => ?_, fun b ob e => ?_, by simpa using I.len⟩
  · exact (hs.2 b (old b o e)).trans (I.base.keep b o e n' hb hx)
  · obtain ⟨sl, e1⟩ := I.base.slot b o e n' hb hx
    exact ⟨sl, (hs.2 b (old b o e)).trans e1⟩
  · obtain ⟨o', e1⟩ := I.base.there b o e hx
    exact ⟨o', (hs.2 b (old b o e)).trans e1⟩
  · by_cases hj : j = i
    · subst hj
      rw [List.getElem?_set_self hiσ] at e2
      cases e2
    · rw [List.getElem?_set_ne (Ne.symm hj)] at e2
      obtain ⟨u', r', q⟩ := hloc j y v' e1 e2 e3
      refine ⟨u', r', ?_⟩
      rcases q with ⟨k, e⟩ | ⟨k, c, e, z⟩
      · refine .inl ⟨k, ?_⟩
        have : y ≠ n := fun e => hj (nodup_ix hN e1 (e ▸ hi))
        simp [this, e]
      · exact .inr ⟨k, c, e, z.sameBut hs (cne y c e)⟩
  · obtain ⟨w', z⟩ := I.cell y c e
    exact ⟨w', z.sameBut hs (cne y c e)⟩
  · obtain ⟨e, n', ne, nf, d⟩ := I.pin p hp
    exact ⟨(hs.2 p.1 ne).trans e, n', ne, nf, d⟩
  · refine (I.hok b ob e).stay (fun c w' hc q => (hs.2 c ?_).trans q) (fun _ q => q) fun _ _ q => q
    intro z
    rcases hc with hc | hc
    · rw [← hc, z, I.free] at e
      cases e
    · rw [z, I.free] at hc
      cases hc
/-- an exception has come to this frame; it is tracked from now on -/
theorem landed {C t : Addr} {B : Heap} {H' : Hp} {s' : Shared} {h6 : Heap} (I : Inv X pins σ H s) (os : s'.os = s.os) (bare : AllBare s'.gens) (un : Un (frs X.stack) [] H H' s.heap s'.heap) (hok : HOk X.prog X.w H' s'.heap)
    (fl : Heap.FlyingW B X.stack ea (.ref C) (.ref t) s'.heap) (cov : Cov B (frs X.stack) H H' s.heap) (fl6 : Heap.FlyingW B X.stack ea (.ref C) (.ref t) h6) (up : s'.heap.UpToSlots h6) :
    H' ea = none ∧ Inv X pins σ (upd H' ea (excO ea C)) { s' with heap := h6 } := by
  have nea : H' ea = none := by
    cases q : H' ea with
    | none => rfl
    | some u =>
      obtain ⟨o, e⟩ := cov.trk ea u q
      rw [fl.2.1] at e
      cases e
  obtain ⟨oe, vs, hoe, hoc, hod, _⟩ := fl6.first
  have fresh : s.heap.get? ea = none := by
    cases q : s.heap.get? ea with
    | none => rfl
    | some o =>
      by_cases hb : ea ∈ frs X.stack
      · obtain ⟨_, o', ho', nf⟩ := fl6.2.2.1.mem hb
        rw [hoe] at ho'
        cases ho'
        exact absurd hod (nf vs)
      · obtain ⟨o', e, _⟩ := cov.old ea o q hb
        rw [fl.2.1] at e
        cases e
  have fr : ∀ b o, s'.heap.get? b = some o → b ∈ frs X.stack → ∃ sl, h6.get? b = some { o with slots := sl } := fun b o e hb => by
    obtain ⟨_, o', ho', nf⟩ := fl.2.2.1.mem hb
    rw [e] at ho'
    cases ho'
    exact up b o e nf
  have ne : ∀ b u, H' b = some u → b ≠ ea := fun b u e => ne_of_none e nea
  refine ⟨nea, I.call' (ch := []) os ⟨fun b o e n hb hx => ?_, fun b o e n hb hx => ?_, fun b o e n hx => ?_, fun b o e hx => ?_, fun b xs e => ?_, fun b o u e => ?_, fun b ps e => ?_⟩ (fun b u e => ?_) bare fun b z => absurd z (by simp)⟩
  · obtain ⟨o', e2, z⟩ := cov.old b o e hb
    rw [z n] at e2
    exact fl6.1 b o e2
  · obtain ⟨sl, e1⟩ := un.slot b o e n hb hx
    obtain ⟨sl2, e2⟩ := fr b _ e1 hb
    exact ⟨sl2, e2⟩
  · have : b ≠ ea := fun z => by rw [z, fresh] at e; cases e
    rw [upd_ne this]
    exact un.free b o e n hx
  · by_cases hb : b ∈ frs X.stack
    · obtain ⟨o1, e1⟩ := un.there b o e hx
      obtain ⟨sl, e2⟩ := fr b _ e1 hb
      exact ⟨_, e2⟩
    · obtain ⟨o', e2, _⟩ := cov.old b o e hb
      exact ⟨o', fl6.1 b o' e2⟩
  · have q := un.tups b xs e
    rw [upd_ne (ne b _ q)]
    exact q
  · have q := un.frzs b o u e
    rw [upd_ne (ne b _ q)]
    exact q
  · obtain ⟨more, q⟩ := un.tbls b ps e
    exact ⟨more, by rw [upd_ne (ne b _ q)]; exact q⟩
  · by_cases hb : b = ea
    · subst hb
      rw [upd_same] at e
      cases e
      refine ⟨⟨oe, vs, hoe, hoc, hod⟩, ⟨oe, hoe⟩, fun h1 h2 p k => ?_⟩
      obtain ⟨o, ws, e1, e2, e3⟩ := p
      exact ⟨o, ws, k o e1, e2, e3⟩
    · rw [upd_ne hb] at e
      refine (hok b u e).stay (fun c o hc e1 => ?_) (fun c r => by rw [upd_ne (ne c _ r)]; exact r) fun c xs r => by rw [upd_ne (ne c _ r)]; exact r
      have ht : ∃ o, B.get? c = some o := by
        rcases hc with rfl | hc
        · exact cov.trk _ _ e
        · exact cov.trk _ _ hc
      obtain ⟨o1, e2⟩ := ht
      have := fl.1 c o1 e2
      rw [e1] at this
      cases this
      exact fl6.1 c o e2
end
/-! ### isinstance of an exception -/
section
variable {K : PySem.W.Frag} {x C : Addr}
def ExcAt (x C : Addr) (h : Heap) : Prop := ∃ o vs, h.get? x = some o ∧ o.cls = .ref C ∧ o.data = .fields vs
theorem exc_ty {M : Model} {h : Heap} (p : ExcAt x C h) : PySem.W.Looks M h (typeOf (.ref x)) (.ref C) := by
  obtain ⟨o, vs, h1, h2, _⟩ := p
  exact h2 ▸ (PySem.W.Looks.ld h1).andThen .now
end
end L2
namespace L2
open PySem PySem.Spec PyProof.Rows PySem.W Builtin Builtin.ObjectAttr Builtin.Getset_descriptor
section
variable {K : PySem.W.Frag} {x C : Addr}
theorem exc_find {M : Model} {h : Heap} (X : K.In h) (k : ExcK K C) : Looks M h (find (.ref x) (.ref C) "__class__") (.bind (.builtin "getset_descriptor.__get__") (.builtin "object.__class__")) := by
  refine (looks_findIn X k.cl).andThen ?_
  refine Looks.andThen (show Looks M h (getOf (some (.builtin "object.__class__"))) (some (.builtin "getset_descriptor.__get__")) from looks_specialIn X k.gt) ?_
  exact (show Looks M h (dataDescriptor? (some (.builtin "object.__class__")) (some (.builtin "getset_descriptor.__get__"))) (some (.builtin "getset_descriptor.__get__", .builtin "object.__class__")) from (looks_takesIn X k.tk).andThen .now).andThen (Looks.tag .now)
variable {prog : Program} {w : World} {A : Around} {E : Value → Shared → Prop} {s : Shared} {R : Result → Shared → Prop}
theorem exc_cget {tp : Value} (X : K.In s.heap) (p : ExcAt x C s.heap) (k : ExcK K C) (h : R (.ok (.ret (.ref C))) s) :
    codeAny (model prog w) A (.call (.builtin "getset_descriptor.__get__") ⟨[.builtin "object.__class__", .ref x, tp], []⟩) R s := by
  obtain ⟨hh, g, dr, t, os⟩ := s
  have L0 := exc_ty (M := model prog w) p
  have L1 := looks_mroIn (M := model prog w) X k.mo
  refine codeAny_call_builtin KF.slot_gs.plain KF.entry_gs (KF.slot_gs.check _ _ _ _ _ _ _ _ KF.type_class (KF.args_gs _ _ _) ?_)
  unfold Builtin.«getset_descriptor.__get__» Builtin.Getset_descriptor.descrGet
  rw [dga_obj]
  refine wpAny_bind (wpAny_pure ?_)
  unfold descrGetter descrCheckInstance descrNameAndClass isInstance
  simp only [KF.owner_class]
  repeat lk
  refine ⟨Code.quiet_builtin _ (by decide +kernel), codeAny_builtin KF.entry_class ?_⟩
  unfold Builtin.«object.__class__» shownTypeOf
  repeat lk
  exact h
theorem exc_ga {tk : Tok} (X : K.In s.heap) (p : ExcAt x C s.heap) (k : ExcK K C) (h : R (.ok (.ret (.ref C))) s) :
    codeAny (model prog w) A (.call (.builtin "BaseException.__getattribute__") ⟨[.ref x, .str "__class__" tk], []⟩) R s := by
  obtain ⟨hh, g, dr, t, os⟩ := s
  have L0 := exc_ty (M := model prog w) p
  have L1 := looks_mroIn (M := model prog w) X k.mb
  have LI : Looks (model prog w) hh (isInstance (.ref x) (.type "BaseException")) true := L0.andThen L1
  have LF := exc_find (M := model prog w) (x := x) X k
  refine codeAny_call_builtin (by decide +kernel) PySem.F.entry_bexc_ga ?_
  have hk : builtinKind "BaseException.__getattribute__" = some .slot := by decide +kernel
  have hsplit : splitId "BaseException.__getattribute__" = some ("BaseException", "__getattribute__") := by decide +kernel
  have ha := PySem.F.args_bexc_ga (.ref x) (.str "__class__" tk)
  simp only [checkBuiltinCall, hk, hsplit]
  refine wpAny_bind (LI.at ?_)
  rw [if_neg (by decide)]
  have go : wpAny (model prog w) A.in1 («object.__getattribute__» ⟨[.ref x, .str "__class__" tk], []⟩) (fun fin s' => match fin with | .done f => R (.ok f) s' | .again c' => c'.quiet = true ∧ codeAny (model prog w) A c' R s') (fun e s' => R (.error e) s') ⟨hh, g, dr, t, os⟩ := by
    refine wpAny_bind (wpAny_pure (wpAny_bind (wpAny_pure (wpAny_bind (L0.at (wpAny_bind (LF.at ?_)))))))
    show wpAny _ _ (call (.builtin "getset_descriptor.__get__") [.builtin "object.__class__", .ref x, .ref C] >>= ret) _ _ _
    exact wpAny_bind (wpAny_call (exc_cget X p k (wpAny_pure h)))
  cases hsig : Manifest.signature? "BaseException.__getattribute__" with
  | none => exact wpAny_pure go
  | some sig =>
    have ha' : Bind.checkArgs "BaseException.__getattribute__" sig ⟨[.ref x, .str "__class__" tk], []⟩ = pure () := by simpa only [argsOk, hsig] using ha
    simp only [ha']
    exact wpAny_pure go
theorem exc_class {Q : Option Value → Shared → Prop} (X : K.In s.heap) (p : ExcAt x C s.heap) (k : ExcK K C) (h : Q (some (.ref C)) { s with toks := s.toks + 1 }) : wpAny (model prog w) A (getAttr? (.ref x) "__class__") Q E s := by
  obtain ⟨hh, g, dr, t, os⟩ := s
  have L0 := exc_ty (M := model prog w) p
  have L1 := looks_findIn (M := model prog w) X k.ga
  have L2 := looks_findIn (M := model prog w) X k.nga
  have f3 := PySem.F.attrBase_ValueError.ga.bind (.ref x)
  unfold getAttr? getAttrBy? getAttrBy
  refine wpAny_bind (wpAny_mkText (wpAny_bind (wpAny_attempt (wpAny_holding (wpAny_bind (L0.at (wpAny_bind (L1.at ?_))))))))
  show wpAny _ _ (getAttrByItsOwn _ _ _ _ _ _) _ _ _
  unfold getAttrByItsOwn
  refine wpAny_bind (L2.at (wpAny_bind (wpAny_attempt (wpAny_holding ?_))))
  show wpAny _ _ (boundAndCalled _ _ _) _ _ _
  unfold boundAndCalled
  exact wpAny_bind (wpAny_of_eq f3 (wpAny_call (exc_ga (s := ⟨hh, g, dr, t + 1, os⟩) X p k (wpAny_pure (wpAny_pure h)))))
theorem kitx_exc (k : ExcK K C) : KitX K (.ref x) (.ref C) (ExcAt x C) where
  ty := fun _ _ _ p => exc_ty p
  it := fun _ _ X _ => by
    obtain ⟨cdD, hcD, _⟩ := any_some k.dct
    unfold clsIn at hcD
    split at hcD
    · rename_i c' d' cd' sl' ho
      intro A' Q' E' s' kk q
      unfold isType loadHead
      exact wpAny_bind (wpAny_loadPart (kk _ _ (X _ _ ho)) (wpAny_pure q))
    · cases hcD
  ne := fun h tp dd its n sl X htp => by
    obtain ⟨cdD, hcD, _⟩ := any_some k.dct
    refine Bool.eq_false_iff.mpr fun q => ?_
    have e : C = tp := Value.ref.inj (beq_iff_eq.mp q)
    subst e
    unfold clsIn at hcD
    split at hcD
    · rename_i c' d' cd' sl' ho
      have z := (X _ _ ho).symm.trans htp
      cases z
    · cases hcD
  ca := fun X p h => exc_class X p k h
end
section
variable {X : Cx}
theorem exc_at {pins : List (Addr × Obj)} {σ : St} {H : Hp} {s : Shared} {ea C : Addr} (I : Inv X pins σ H s) (h : H ea = some (excO ea C)) : ExcAt ea C s.heap := (I.hok ea _ h).1
abbrev rIsx (K : PySem.W.Frag) (xs : List V) (H : Hp) (Q : VK) : Prop := ∃ (ea C : Addr) (d : V) (c : Value) (b : Bool), xs = [.ref ea, d] ∧ ((∃ D, d = .ref D ∧ c = .ref D) ∨ ∃ T, d = .ty T ∧ c = .type T) ∧ H ea = some (excO ea C) ∧ ExcK K C ∧ kitOne K (.ref C) c = some b ∧ Q (.bl b) H
theorem call_isx : CallR X (.builtin "isinstance") (rIsx X.K) := by
  intro pins s σ H xs us Q I r h
  obtain ⟨ea, C, d, c, b, rfl, hd, he, k, e, q⟩ := h
  obtain ⟨u, v, rfl, ru, rv⟩ := vals2 r
  cases (show u = Value.ref ea from ru)
  have ev : v = c := by
    rcases hd with ⟨D, rfl, rfl⟩ | ⟨T, rfl, rfl⟩
    · exact rv
    · exact rv
  subst ev
  exact kia_one (kitx_exc k) I.kIn (exc_at I he) e (fun z => nomatch z) fun tk => ⟨.bl b, H, I.tok tk, rfl, q⟩
theorem refs_of : ∀ {cs : List Addr} {us : List Value}, Vals (cs.map V.ref) us → us = cs.map Value.ref
  | [], _, r => by cases r; rfl
  | c :: cs, _, r => by
    cases r with
    | cons r1 r2 => rw [refs_of r2, List.map_cons]; cases r1; rfl
abbrev rIsxT (K : PySem.W.Frag) (xs : List V) (H : Hp) (Q : VK) : Prop := ∃ (ea C tp : Addr) (cs : List Addr) (b : Bool), xs = [.ref ea, .ref tp] ∧ H tp = some (.tup (cs.map V.ref)) ∧ H ea = some (excO ea C) ∧ ExcK K C ∧ kitAny K (.ref C) (cs.map Value.ref) = some b ∧ Q (.bl b) H
theorem call_isxT : CallR X (.builtin "isinstance") (rIsxT X.K) := by
  intro pins s σ H xs us Q I r h
  obtain ⟨ea, C, tp, cs, b, rfl, ht, he, k, e, q⟩ := h
  obtain ⟨u, v, rfl, ru, rv⟩ := vals2 r
  cases (show u = Value.ref ea from ru)
  cases (show v = Value.ref tp from rv)
  obtain ⟨_, its, r2, o, h1, h2, n, h3⟩ := I.hok tp _ ht
  rw [refs_of r2] at h3
  obtain ⟨cl, dd, dt, sl⟩ := o
  simp only at h2 h3
  subst h2 h3
  exact kia_tup (kitx_exc k) I.kIn (exc_at I he) h1 e (fun z => nomatch z) fun tk => ⟨.bl b, H, I.tok tk, rfl, q⟩
end
theorem passN {P : Program} {w : World} {X : Cx} : Passes (CX1 P w) X (fun _ _ _ => False) := fun _ _ _ _ _ _ _ h => by
  obtain ⟨_, _, _, _, _, _, _, _, _, _, _, _, z⟩ := h
  exact z.elim
end L2

set_option Elab.async false
set_option linter.all false
set_option maxRecDepth 100000
set_option maxHeartbeats 4000000
namespace L2
open PySem PySem.Spec PyProof.Rows PySem.W
/-! ### xs[::-1] -/
def tRev3 (K : PySem.W.Frag) (te tk : TE) : TE := fun σ H Q => te σ H fun x H1 => tk σ H1 fun y H2 => y = .int (-1) ∧ ∃ a xs, x = .ref a ∧ SqL K H2 a xs ∧ ∀ p, H2 p = none → Q (.ref p) (upd H2 p (.lst xs.reverse))
theorem pe_rev3 {X : Cx} {e k : Expr} {te tk : TE} {p2 pos : Pos} (he : PE X e te) (hk : PE X k tk) : PE X (.Subscript e (.Slice none none (some k) p2) pos) (tRev3 X.K te tk) := by
  intro pins s σ H Q I h
  refine Subscript_ (thn (he pins s σ H _ I h) fun v s1 ⟨x, H1, I1, r1, q1⟩ => ?_)
  refine wpAny_Slice ?_
  rw [evalPart_none]
  refine wpAny_pure ?_
  refine wpAny_pure ?_
  rw [evalPart_some]
  refine thn (hk pins s1 σ H1 _ I1 q1) fun vk s3 ⟨y, H3, I3, ry, q3⟩ => ?_
  obtain ⟨rfl, a, xs, rfl, hx, q⟩ := q3
  obtain ⟨tk0, rfl⟩ := ry
  cases r1
  have I4 : Inv X pins σ H3 { s3 with heap := s3.heap.push { cls := .type "slice", data := .fields #[.none, .none, .int (-1) tk0] } } := I3.kept (t' := s3.toks) fun b ob q => Heap.get?_push_of_some _ q
  obtain ⟨its, r, ht, hz⟩ := I4.list hx
  have hlen := r.length
  show wpAny (model X.prog X.w) X.A (subscriptTail e (.Slice none none (some k) p2) (.ref a) (.ref s3.heap.objs.size)) (EP X pins σ Q) X.xe { s3 with heap := s3.heap.push { cls := .type "slice", data := .fields #[.none, .none, .int (-1) tk0] } }
  refine tail_any (ops := [.ref a, .ref s3.heap.objs.size]) ht.isList.typeIs slot_list_getitem.lookup ?_ (by with_unfolding_all rfl)
  refine wpAny_getItem_list_slice ht.isList (Heap.IsSliceOf.new ..) .none .none (.int (-1) tk0) (by decide) ?_ (by rw [List.size_toArray]; omega)
  rw [krv_pick]
  refine ⟨.ref _, _, I4.laid (t' := s3.toks) (o := .lst xs.reverse) (fun b ob q => Heap.get?_push_of_some _ q) (Nat.le_refl _) ?_, rfl, q _ (I4.hok.fresh (Nat.le_refl _))⟩
  refine ⟨by rw [List.length_reverse]; exact hz, its.reverse, 0, r.reverse, ?_⟩
  exact Heap.get?_push_size _ rfl

/-! ### try: any suite, except C1 [as n]: .. except C2 [as n]: .. -/
/-- within the suite of a try: the pins lie in the context, what flies out is told -/
def Cx.tr (X : Cx) (pins : List (Addr × Obj)) (E : XK) : Cx := { X with pn := X.pn ++ pins, xe := fun e s' => ∃ σ H s, Inv X pins σ H s ∧ CX1 X.prog X.w X.stack H s E e s' }
section
variable {X : Cx} {pins pins' : List (Addr × Obj)} {E : XK} {σ : St} {H : Hp} {s : Shared}
theorem Cx.Ok.tr (ok : X.Ok) : (X.tr pins E).Ok :=
  ⟨ok.mod, ok.kind, ok.glob, ok.blt, ok.above, ok.inj, ok.has, ok.cab, ok.hd, ok.frames, ok.stk, ok.exf, ok.bs, ok.bsz, ok.noex, ok.exfs, ok.funs, ok.frf⟩
theorem Cx.Ok.untr (ok : (X.tr pins E).Ok) : X.Ok :=
  ⟨ok.mod, ok.kind, ok.glob, ok.blt, ok.above, ok.inj, ok.has, ok.cab, ok.hd, ok.frames, ok.stk, ok.exf, ok.bs, ok.bsz, ok.noex, ok.exfs, ok.funs, ok.frf⟩
theorem Inv.tr (I : Inv X pins σ H s) : Inv (X.tr pins E) [] σ H s :=
  ⟨I.ok.tr, I.os, I.bare, I.base, I.loc, I.cell, I.free, I.freeC, fun p hp => I.pin p (by
    have hp' : p ∈ (X.pn ++ pins) ++ [] := hp
    rwa [List.append_nil] at hp'), I.hok, I.len⟩
theorem Inv.untr (I : Inv (X.tr pins E) pins' σ H s) : Inv X pins σ H s :=
  ⟨I.ok.untr, I.os, I.bare, I.base, I.loc, I.cell, I.free, I.freeC, fun p hp => I.pin p (List.mem_append_left _ hp), I.hok, I.len⟩
theorem passT : Passes (CX1 X.prog X.w) (X.tr pins E) E := fun _ σ H s _ _ I h => ⟨σ, H, s, I.untr, h⟩
theorem SP.untr {D : Ends} {f : Flow} {s' : Shared} (h : SP (X.tr pins E) [] D f s') : SP X pins D f s' := by
  cases f with
  | next => obtain ⟨σ, H, I, q⟩ := h; exact ⟨σ, H, I.untr, q⟩
  | ret v => obtain ⟨x, σ, H, I, r, q⟩ := h; exact ⟨x, σ, H, I.untr, r, q⟩
  | brk => obtain ⟨σ, H, I, q⟩ := h; exact ⟨σ, H, I.untr, q⟩
  | cont => obtain ⟨σ, H, I, q⟩ := h; exact ⟨σ, H, I.untr, q⟩
end
/-- handlers, one behind the other: C is the class that came -/
abbrev TH := Addr → Ends → St → Hp → Prop
def PH (X : Cx) (hs : List ExceptHandler) (th : TH) : Prop := ∀ (pins : List (Addr × Obj)) (ea C t : Addr) (B : Heap) (H' : Hp) (s' : Shared) (σ : St) (D : Ends) (h5 : Heap),
  (∀ h6, Heap.FlyingW B X.stack ea (.ref C) (.ref t) h6 → s'.heap.UpToSlots h6 → Inv X pins σ (upd H' ea (excO ea C)) { s' with heap := h6 }) →
  Heap.FlyingW B X.stack ea (.ref C) (.ref t) h5 → s'.heap.UpToSlots h5 → H' ea = none → th C D σ H' →
  wpAny (model X.prog X.w) X.A (handleBy (.ref ea) X.env hs) (SP X pins D) X.xe { s' with heap := h5 }
def hNil : TH := fun _ _ _ _ => False
theorem ph_nil {X : Cx} : PH X [] hNil := fun _ _ _ _ _ _ _ _ _ _ _ _ _ _ z => z.elim
/-- does the class match -/
theorem exm_ok {X : Cx} {Cw ea C t : Addr} {B : Heap} {h5 : Heap} {s' : Shared} {cx : Str} {b : Bool} {pins : List (Addr × Obj)} {σ : St} {H : Hp} (ex : Exc X.K X.mg cx Cw) (exk : ExcK X.K Cw) (I5 : Inv X pins σ H { s' with heap := h5 })
    (fl5 : Heap.FlyingW B X.stack ea (.ref C) (.ref t) h5) (hsub : kitOne X.K (.ref C) (.ref Cw) = some b) {M : Model} {A : Around} {Q : Bool → Shared → Prop} {E : Value → Shared → Prop} (qq : Q b { s' with heap := h5 }) :
    wpAny M A (excMatches (.ref ea) (.ref Cw)) Q E { s' with heap := h5 } := by
  obtain ⟨oe, vs5, hoe, hoc, hod, _⟩ := fl5.first
  by_cases eC : C = Cw
  · subst eC
    have hb : b = true := by
      unfold kitOne at hsub
      rw [if_pos (by simp)] at hsub
      exact (Option.some.inj hsub).symm
    subst hb
    obtain ⟨bm, N', nm, qn, bs, hdct, sn, sub, ab, col, dd, k0, k1, k2, k3, k5, mN, hC, hN', hni, T⟩ := exc_obj I5.kIn ex.q
    exact wpAny_excMatches_sub_self hC hoe hoc (T.hasType PySem.F.excBase_ValueError.hasBase) qq
  · have hx : exmOne X.K (.ref C) (.ref Cw) = some b := by
      unfold exmOne
      rw [if_pos (beq_iff_eq.mpr (show subIn X.K (.ref Cw) (.type "BaseException") = some true from exk.mb))]
      unfold kitOne at hsub
      rw [if_neg (by simpa using eC)] at hsub
      exact hsub
    exact (exm_one (M := M) I5.kIn (exc_ty ⟨oe, vs5, hoe, hoc, hod⟩) hx).at qq
/-- except Cw as n: suite -/
def hAs (K : PySem.W.Frag) (i : Nat) (Cw : Addr) (ts : TS) (th : TH) : TH := fun C D σ H => ∃ b, kitOne K (.ref C) (.ref Cw) = some b ∧ if b = true then (∀ ea, H ea = none →
  ts { nx := fun σ3 H3 => D.nx (σ3.set i none) H3, rt := fun _ _ => False } (σ.set i (some (.ref ea))) (upd H ea (excO ea C))) else th C D σ H
theorem ph_as {X : Cx} {Cw : Addr} {cx n : Str} {np hpos : Pos} {i : Nat} {b0 : Stmt} {suite : List Stmt} {ts : TS} {rest : List ExceptHandler} {th : TH}
    (ex : Exc X.K X.mg cx Cw) (exk : ExcK X.K Cw) (hgc : Gl X cx) (hN : X.N.Nodup) (hi : X.N[i]? = some n) (hn : X.env.scope.names.lookup n = some .local)
    (hs : ∀ ea, PSs (X.suite ea) (b0 :: suite) ts) (hr : PH X rest th) (hdc : (cx == ("__debug__" : Str)) = false := by decide) :
    PH X (.ExceptHandler (some (.Name cx np)) (some n) (b0 :: suite) hpos :: rest) (hAs X.K i Cw ts th) := by
  intro pins ea C t B H' s' σ D h5 L fl5 up5 nea q
  obtain ⟨b, hsub, q⟩ := q
  have I5 := L h5 fl5 up5
  refine wpAny_handleBy_cons (codeAny_handlers_test (ld_glob (X := X.suite ea) I5.suite hgc ex.m ?_ hdc)) (by intro z; cases z)
  refine exm_ok ex exk I5 fl5 hsub ?_
  cases b with
  | false =>
    rw [if_neg Bool.false_ne_true] at q
    exact hr pins ea C t B H' s' σ D h5 L fl5 up5 nea q
  | true =>
    rw [if_pos rfl] at q
    refine codeAny_handlers_suite_as ?_
    refine lands_againW fl5 fun h6 fl6 up6 => ?_
    have I6 := L h6 fl6 (up5.trans up6)
    refine store_ok (X := X.suite ea) (v := .ref ea) I6.suite hN hi (.inl hn) rfl (fun s7 I7 => ?_) (.inr hn)
    refine wpAny_mono (hs ea pins s7 _ _ _ I7 (q ea nea)) (fun fw s8 q8 => ?_) fun _ _ z => False.elim z
    cases fw with
    | next =>
      obtain ⟨σ8, H8, I8, n8⟩ := q8
      exact name_goes (I8.unsuite I5.ok) hN hi hn fun s9 I9 => ⟨_, H8, I9, n8⟩
    | ret v => obtain ⟨_, _, _, _, _, z⟩ := q8; exact False.elim z
    | brk => obtain ⟨_, _, _, z⟩ := q8; exact False.elim z
    | cont => obtain ⟨_, _, _, z⟩ := q8; exact False.elim z
def tTryG (tb : XK → TS) (th : TH) : TS := fun D σ H => tb (fun cv _ H2 => ∃ C, cv = .ref C ∧ ∀ σ' : St, σ'.length = σ.length → th C D σ' H2) D σ H
theorem ps_try {X : Cx} {body : List Stmt} {h0 : ExceptHandler} {hs : List ExceptHandler} {pos : Pos} {tb : XK → TS} {th : TH} (hst : X.stack = X.env :: X.outer) (hfr : X.env.frame = some X.env.locals)
    (hb : ∀ pins E, PSs (X.tr pins E) body (tb E)) (hh : PH X (h0 :: hs) th) : PS X (.Try body (h0 :: hs) [] [] pos) (tTryG tb th) := by
  intro pins s σ H D I h
  refine wpAny_Try_except ?_
  refine wpAny_mono (hb pins _ [] s σ H D I.tr h) (fun fw s1 q => ?_) fun e s1 q => ?_
  · have q' := q.untr
    cases fw with
    | next => exact wpAny_execs_nil q'
    | ret v => exact q'
    | brk => exact q'
    | cont => exact q'
  · obtain ⟨σ1, H1, s0, I1, ea, C', t', B, H', rfl, os, bare, un, hok, fl, cov, C, eC, q2⟩ := q
    cases eC
    have frm : X.A.frames = some (X.env :: X.outer) := by rw [← hst]; exact I.ok.frames
    refine wpAny_looks_onW (base := B) frm hfr (by rw [← hst]; exact fl) fun h4 held up4 => wpAny_landsW held fun h5 fl5 up5 => ?_
    have fl5' : Heap.FlyingW B X.stack ea (.ref C') (.ref t') h5 := by rw [hst]; exact fl5
    obtain ⟨nea, _⟩ := landed I1 os bare un hok fl cov fl5' (up4.trans up5)
    exact hh pins ea C' t' B H' s1 σ1 D h5 (fun h6 fl6 up6 => (landed I1 os bare un hok fl cov fl6 up6).2) fl5' (up4.trans up5) nea (q2 σ1 (by rw [I1.len, I.len]))
/-! ### a < b < c < d -/
end L2
namespace L2
open PySem PySem.Spec PyProof.Rows PySem.W
end L2

set_option Elab.async false
set_option linter.all false
set_option maxRecDepth 100000
set_option maxHeartbeats 4000000
namespace L2
open PySem PySem.Spec PyProof.Rows PySem.W
/-! ### inner defs: a function object of one's own, its code, its cells -/
def over (H : Hp) (cs : List Addr) (H' : Hp) : Hp := fun b => if b ∈ cs then H b else H' b
section
variable {P : Program} {w : World} {H H' : Hp} {h h' : Heap} {cs : List Addr}
end
section
variable {P : Program} {w : World} {K : PySem.W.Frag} {mg : Str → Option Value} {base : Heap} {A : Around} {outer : List Env} {s : Shared} {H : Hp} {f : Addr} {c : CloT} {cs : List Addr} {fvs vs : List V} {us : List Value} {N : List Str} {k : Nat} {Q : VK} {E : XK}
end
end L2

set_option Elab.async false
set_option linter.all false
set_option maxRecDepth 100000
set_option maxHeartbeats 4000000
namespace Tw
/-! heaps: sizes, covers: the plain mathematics -/
/-- what a node of a cover is: n stands e steps above the places; all counted from S on -/
def NodeOk (S st sp n e : Nat) : Prop := 1 ≤ n ∧ S ≤ n * 2 ^ e ∧ (n + 1) * 2 ^ e ≤ S + sp ∧ (1 < n → S ≤ n / 2 * 2 ^ (e + 1) ∧ (n / 2 + 1) * 2 ^ (e + 1) ≤ 2 * S ∧ (n / 2 * 2 ^ (e + 1) < S + st ∨ S + sp < (n / 2 + 1) * 2 ^ (e + 1)))
/-- the nodes cover from x up to y -/
def Chain (S st sp : Nat) : List Nat → Nat → Nat → Prop
  | [], x, y => x = y
  | n :: r, x, y => ∃ e, n * 2 ^ e = x ∧ NodeOk S st sp n e ∧ Chain S st sp r ((n + 1) * 2 ^ e) y
/-- the walk up: e steps done -/
structure Cov (S st sp e low high : Nat) (ls rs : List Nat) : Prop where
  lo1 : S + st ≤ low * 2 ^ e
  lo2 : low * 2 ^ e < S + st + 2 ^ e
  hi1 : high * 2 ^ e ≤ S + sp
  hi2 : S + sp < high * 2 ^ e + 2 ^ e
  le : low ≤ high
  left : Chain S st sp ls (S + st) (low * 2 ^ e)
  right : Chain S st sp rs.reverse (high * 2 ^ e) (S + sp)
end Tw
namespace Tw
/-- what the walk up gives, with so many steps left at most -/
def covW : Nat → Nat → Nat → List Nat → List Nat → List Nat
  | 0, _, _, ls, rs => ls ++ rs.reverse
  | f + 1, low, high, ls, rs => if low < high then covW f ((low + low % 2) / 2) ((high - high % 2) / 2) (if low % 2 = 1 then ls ++ [low] else ls) (if high % 2 = 1 then rs ++ [high - 1] else rs) else ls ++ rs.reverse
/-- the cover -/
def cover (S st sp : Nat) : List Nat := covW (sp - st) (S + st) (S + sp) [] []
end Tw

set_option Elab.async false
set_option linter.all false
set_option maxRecDepth 100000
set_option maxHeartbeats 4000000
namespace Tw
/-! the tables of brackets: ones ahead, least heights of blocks -/
def ahd (ns : List Int) (n : Nat) : List Int := (List.range (n + 1)).map fun k => (ns.take (32 * k)).sum
theorem ahd_length (ns : List Int) (n : Nat) : (ahd ns n).length = n + 1 := by simp [ahd]
/-- the ones of the first k blocks -/
def onesTo (bs : List Int) (k : Nat) : Int := ((bs.take k).map fun b => ones b 32).sum
theorem onesTo_succ {bs : List Int} {k : Nat} {b : Int} (h : bs[k]? = some b) : onesTo bs (k + 1) = onesTo bs k + ones b 32 := by
  unfold onesTo
  rw [List.take_add_one, h]
  simp [List.sum_append]
def aheads (bs : List Int) (n : Nat) : List Int := (List.range (n + 1)).map (onesTo bs)
theorem aheads_length (bs : List Int) (n : Nat) : (aheads bs n).length = n + 1 := by simp [aheads]
theorem aheads_succ (bs : List Int) (n : Nat) : aheads bs (n + 1) = aheads bs n ++ [onesTo bs (n + 1)] := by
  unfold aheads
  rw [List.range_succ, List.map_append]
  rfl
theorem aheads_last (bs : List Int) (n : Nat) : aheads bs n = (List.range n).map (onesTo bs) ++ [onesTo bs n] := by
  unfold aheads
  rw [List.range_succ, List.map_append]
  rfl
theorem onesTo_packs {ns : List Int} (h : IsBits ns) : ∀ k : Nat, k ≤ many ns.length → onesTo (packs ns) k = (ns.take (32 * k)).sum
  | 0, _ => by simp [onesTo]
  | k + 1, hk => by
    rw [onesTo_succ (packs_get (by omega)), onesTo_packs h k (by omega), sum_block h k 32 (by omega)]
    rfl
theorem aheads_packs {ns : List Int} (h : IsBits ns) : aheads (packs ns) (packs ns).length = ahd ns (many ns.length) := by
  rw [packs_length]
  unfold aheads ahd
  refine List.map_congr_left fun k hk => ?_
  have := List.mem_range.mp hk
  exact onesTo_packs h k (by omega)
end Tw

set_option Elab.async false
set_option linter.all false
set_option maxRecDepth 100000
set_option maxHeartbeats 4000000
namespace L2
open PySem PySem.Spec PyProof.Rows
section
variable {X : Cx} {pins : List (Addr × Obj)} {σ : St} {H : Hp} {s : Shared}
end
section
variable {X : Cx} {x : Str} {scope : Scope}
/-- it takes three names -/
theorem CompOk.three {y z u : Str} {j k l : Nat} {c d e : Addr} (hyz : y ≠ z) (hyu : y ≠ u) (hzu : z ≠ u) (hNy : X.N[j]? = some y) (hNz : X.N[k]? = some z) (hNu : X.N[l]? = some u)
    (hXy : X.env.scope.names.lookup y = some .cell ∨ X.env.scope.names.lookup y = some .free) (hXz : X.env.scope.names.lookup z = some .cell ∨ X.env.scope.names.lookup z = some .free) (hXu : X.env.scope.names.lookup u = some .cell ∨ X.env.scope.names.lookup u = some .free)
    (ecy : X.env.cells.lookup y = some c) (ecz : X.env.cells.lookup z = some d) (ecu : X.env.cells.lookup u = some e) (clos : closureFor scope X.env = pure [(y, c), (z, d), (u, e)])
    (hry : (relabel scope X.env).names.lookup y = some .cell ∨ (relabel scope X.env).names.lookup y = some .free) (hrz : (relabel scope X.env).names.lookup z = some .cell ∨ (relabel scope X.env).names.lookup z = some .free) (hru : (relabel scope X.env).names.lookup u = some .cell ∨ (relabel scope X.env).names.lookup u = some .free)
    (hfree : ∀ v ∈ scope.names, v.2 = .free → v.1 = y ∨ v.1 = z ∨ v.1 = u := by decide) (nocell : ∀ y ∈ scope.names, y.2 ≠ .cell := by decide) (kind : scope.kind = .function := by rfl) (names : ∀ y ∈ scope.names, y.2 = .local → scope.names.lookup y.1 = some .local := by decide)
    (hx : scope.names.lookup x = some .local := by rfl) (nd : [x, y, z, u].Nodup := by decide) : CompOk X x [(y, j), (z, k), (u, l)] scope [(y, c), (z, d), (u, e)] := by
  have zy : (z == y) = false := by simpa using Ne.symm hyz
  have uy : (u == y) = false := by simpa using Ne.symm hyu
  have uz : (u == z) = false := by simpa using Ne.symm hzu
  have ly : ([(y, c), (z, d), (u, e)] : List (Str × Addr)).lookup y = some c := by simp
  have lz : ([(y, c), (z, d), (u, e)] : List (Str × Addr)).lookup z = some d := by simp [List.lookup, zy]
  have lu : ([(y, c), (z, d), (u, e)] : List (Str × Addr)).lookup u = some e := by simp [List.lookup, uy, uz]
  refine ⟨kind, nocell, names, hx, clos, fun v f he => ?_, fun v hv => ?_, nd, fun v i h => ?_⟩
  · have hm := PySem.mem_of_lookup he
    rcases List.mem_cons.mp hm with q | q
    · cases q
      exact ecy
    rcases List.mem_cons.mp q with q | q
    · cases q
      exact ecz
    · cases List.mem_singleton.mp q
      exact ecu
  · have hv' : v = y ∨ v = z ∨ v = u := by
      rcases hv with hv | hv
      all_goals
        obtain ⟨k0, hm, e⟩ := relabel_back hv
        rcases e with e | ⟨e, _⟩
        · subst e
          first | exact absurd rfl (nocell _ hm) | exact hfree _ hm rfl
        · subst e
          exact hfree _ hm rfl
    rcases hv' with rfl | rfl | rfl
    · exact ⟨c, ly⟩
    · exact ⟨d, lz⟩
    · exact ⟨e, lu⟩
  · rcases List.mem_cons.mp h with q | q
    · cases q
      exact ⟨hNy, hXy, hry⟩
    rcases List.mem_cons.mp q with q | q
    · cases q
      exact ⟨hNz, hXz, hrz⟩
    · cases List.mem_singleton.mp q
      exact ⟨hNu, hXu, hru⟩
end
end L2
namespace Tw
open PySem L2
theorem comp_mapM {K : PySem.W.Frag} {a : Addr} {ns : List Int} {cap : L2.St} {tt : TT} {te : TE} {Qf : Addr → Hp → Prop} {H : Hp} (g : Int → Int) (hS : SqL K H a (ns.map V.int)) (hl : ns.length < sizeLine)
    (htt : ∀ (z : Int) (H' : Hp) (Q : Bool → Hp → Prop), Q true H' → tt (some (.int z) :: cap) H' Q) (hte : ∀ (z : Int) (H' : Hp) (Q : VK), z ∈ ns → Same H H' → Q (.int (g z)) H' → te (some (.int z) :: cap) H' Q)
    (q : ∀ D, H D = none → Qf D (upd H D (.lst ((ns.map g).map V.int)))) : rdComp (Itl K a) cap tt te Qf H := by
  intro D hD
  refine ⟨fun i m ys H1 => m = ns.length - i ∧ i ≤ ns.length ∧ ys = ((ns.take i).map g).map V.int ∧ H1 = upd H D (.lst ys), ⟨_, rfl, Nat.zero_le _, rfl, rfl⟩, ?_⟩
  rintro i m ys H1 ⟨rfl, hi, rfl, rfl⟩
  have hS1 : SqL K (upd H D (.lst (((ns.take i).map g).map V.int))) a (ns.map V.int) := (same_new hD _).seq hS
  by_cases hlt : i < ns.length
  · have hg : (ns.map V.int)[i]? = some (.int ns[i]) := by
      rw [List.getElem?_map, List.getElem?_eq_getElem hlt]
      rfl
    refine .inr ⟨⟨_, _, hS1, hg⟩, fun v H2 y => ?_⟩
    obtain ⟨rfl, y⟩ := y
    have e := y _ hS1
    rw [hg] at e
    cases e
    refine htt _ _ _ ?_
    rw [if_pos rfl]
    refine hte _ _ _ (List.getElem_mem hlt) (same_new hD _) ⟨upd_same, ?_, ns.length - (i + 1), by omega, rfl, hlt, ?_, ?_⟩
    · rw [List.length_map, List.length_map, List.length_take]
      omega
    · rw [List.take_add_one, List.getElem?_eq_getElem hlt, List.map_append, List.map_append]
      rfl
    · rw [upd_upd]
  · have e : i = ns.length := by omega
    subst e
    rw [List.take_length]
    rw [List.take_length] at hS1
    exact .inl ⟨⟨_, hS1, by rw [List.length_map]; exact Nat.le_refl _⟩, q D hD⟩
end Tw

set_option Elab.async false
set_option linter.all false
set_option maxRecDepth 100000
set_option maxHeartbeats 4000000
namespace Tw
/-! depths of a tree's nodes, and its brackets -/
def brk : List Int → Int → List Int
  | [], u => List.replicate u.toNat 0
  | d :: r, u => List.replicate (u - d).toNat 0 ++ 1 :: brk r (d + 1)
end Tw

set_option Elab.async false
set_option linter.all false
set_option maxRecDepth 100000
set_option maxHeartbeats 4000000
namespace L2
open PySem PySem.Spec PyProof.Rows

/-! ### range(0, b, 8); a walk over a list or a tuple -/
section
variable {X : Cx} {tg : Expr}
/-- range(0, b, 8) -/
def iRng8 (ta : TA) : TI := fun σ H R => ta σ H fun vs H1 => ∃ b : Nat, vs = [.int 0, .int (b : Int), .int 8] ∧ b < 536870912 ∧ R (Its 0 8 ((b + 7) / 8)) H1
theorem rngSize8 (b : Nat) : Builtin.Range.rangeSize 0 b 8 = (((b + 7) / 8 : Nat) : Int) := by
  unfold Builtin.Range.rangeSize
  rw [if_pos (by decide)]
  split <;> omega
theorem rngSmall8 {b : Nat} (h : b < 536870912) : Builtin.Range.small 0 b 8 = true := by
  unfold Builtin.Range.small Builtin.Range.rangeFitsLong
  rw [rngSize8]
  generalize hn : (((b + 7) / 8 : Nat) : Int) = n
  have h1 : n ≤ 67108864 := by omega
  have h0 : 0 ≤ n := by omega
  have e : (2 : Int) ^ 63 = 9223372036854775808 := by decide
  rw [e, if_pos (by decide)]
  refine dand (dand (dand (dand (by decide) (dand (decide_eq_true ?_) (decide_eq_true ?_))) (by decide)) (dand (decide_eq_true ?_) (decide_eq_true ?_))) ?_
  · omega
  · omega
  · omega
  · omega
  · rw [Bool.or_eq_true]
    exact .inr (dand (decide_eq_true (by omega)) (decide_eq_true (by omega)))
theorem pi_range8 {a b c : Expr} {ta : TA} {p pos : Pos} (hg : Gl X "range") (hm : X.mg "range" = none) (ha : PA X [a, b, c] ta) (hs : starEach [a, b, c] X.env = [(false, eval a X.env), (false, eval b X.env), (false, eval c X.env)] := by rfl)
    (hs2 : starEach [b, c] X.env = [(false, eval b X.env), (false, eval c X.env)] := by rfl) : PI X tg (.Call (.Name "range" p) [a, b, c] [] pos) (iRng8 ta) := by
  intro pins s σ H R I h
  refine Call_ (ld_blt I hg hm boot_range (PyProof.Rows.callWith_type1 (thn (ha pos pins s σ H _ I h) fun us s1 ⟨vs, H1, I1, r1, q1⟩ => ?_) (by rw [hs, hs2]) (by rw [hs2]; rfl)))
  obtain ⟨y, e, l1, q⟩ := q1
  subst e
  cases r1 with
  | cons r rr =>
    cases rr with
    | cons r' rr =>
      cases rr with
      | cons r'' rr =>
        cases rr
        obtain ⟨t, rfl⟩ := r
        obtain ⟨t', rfl⟩ := r'
        obtain ⟨t'', rfl⟩ := r''
        refine call_range_3 (by decide) ?_ (.inl (PyProof.noPylong_small (by omega)))
        refine wpAny_pyIter_range (IsRange.new ..) (rngSmall8 l1) ?_
        have I2 : Inv X pins σ H1 { s1 with heap := s1.heap.push { cls := .type "range", data := .fields #[.int 0 t, .int y t', .int 8 t''] }, toks := s1.toks } := I1.kept fun b o e => Heap.get?_push_of_some _ e
        refine ⟨(s1.heap.push { cls := .type "range", data := .fields #[.int 0 t, .int y t', .int 8 t''] }).objs.size, [(s1.heap.push { cls := .type "range", data := .fields #[.int 0 t, .int y t', .int 8 t''] }).objs.size], _, _, H1, rfl,
          I2.kept (t' := s1.toks) fun b o e => Heap.get?_push_of_some _ e, turn_step _ 0 8 ((y + 7) / 8), ?_, fun b hb => ?_, q⟩
        · have e1 : (0 : Int) + ((0 : Nat) : Int) * 8 = 0 := by decide
          have e2 : (((y + 7) / 8 : Nat) : Int) - ((0 : Nat) : Int) = Builtin.Range.rangeSize 0 y 8 := by rw [rngSize8]; simp
          show IsRangeIter _ _ ((0 : Int) + ((0 : Nat) : Int) * 8) ((((y + 7) / 8 : Nat) : Int) - ((0 : Nat) : Int)) 8
          rw [e1, e2]
          exact Heap.get?_push_size _ rfl
        · have e : b = (s1.heap.push { cls := .type "range", data := .fields #[.int 0 t, .int y t', .int 8 t''] }).objs.size := by simpa using hb
          subst e
          exact I2.fpOk (Nat.le_refl _) (I2.hok.fresh (Nat.le_refl _))
/-- for x in xs, a list or a tuple -/
def iSeq (K : PySem.W.Frag) (tl : TE) : TI := fun σ H R => tl σ H fun x H1 => ∃ a, x = .ref a ∧ (((∃ xs, SqL K H1 a xs) ∧ R (Itl K a) H1) ∨ ((∃ xs, SqT K H1 a xs) ∧ R (Itt K a) H1))
theorem pi_seq {l : Expr} {tl : TE} (hl : PE X l tl) : PI X tg l (iSeq X.K tl) := by
  intro pins s σ H R I h
  refine thn (hl pins s σ H _ I h) fun v s1 ⟨x, H1, I1, r1, q1⟩ => ?_
  obtain ⟨a, e, q1⟩ := q1
  subst e
  cases r1
  rcases q1 with ⟨⟨xs, hq⟩, q⟩ | ⟨⟨xs, hq⟩, q⟩
  · obtain ⟨its, rv, p, hz⟩ := I1.list hq
    refine wpAny_pyIter_list p.isList ?_
    refine ⟨s1.heap.objs.size, [s1.heap.objs.size], _, _, H1, rfl, I1.kept (t' := s1.toks) fun b o e => Heap.get?_push_of_some _ e, turn_list a _, ⟨_, Heap.get?_push_size _ rfl, rfl, rfl⟩, fun b hb => ?_, q⟩
    have e : b = s1.heap.objs.size := by simpa using hb
    subst e
    exact I1.fpOk (Nat.le_refl _) (I1.hok.fresh (Nat.le_refl _))
  · obtain ⟨its, rv, p, hz⟩ := I1.tuple hq
    refine wpAny_pyIter_tuple (show s1.heap.IsTuple a its.toArray from p) ?_
    refine ⟨s1.heap.objs.size, [s1.heap.objs.size], _, _, H1, rfl, I1.kept (t' := s1.toks) fun b o e => Heap.get?_push_of_some _ e, turn_tuple a _, ⟨_, Heap.get?_push_size _ rfl, rfl, rfl⟩, fun b hb => ?_, q⟩
    have e : b = s1.heap.objs.size := by simpa using hb
    subst e
    exact I1.fpOk (Nat.le_refl _) (I1.hok.fresh (Nat.le_refl _))
end
end L2

set_option Elab.async false
set_option linter.all false
set_option maxRecDepth 100000
set_option maxHeartbeats 4000000
namespace L2
open PySem PySem.Spec PyProof.Rows

end L2

namespace L2
open PySem PySem.Spec PyProof.Rows

section
variable (P : Program) (w : World)
end

section
variable {P : Program} {w : World} {H H' : Hp} {h h' : Heap} {a : Addr} {o : HO}
end

section
variable {P : Program} {w : World} {H : Hp} {h h' : Heap} {x e : Addr} {o' : HO}
end

section
variable {fs fs' ex ex' : List Addr} {H H1 H2 : Hp} {h h1 h2 h' : Heap} {a x e : Addr} {o : HO}
end

end L2

namespace L2
open PySem PySem.Spec PyProof.Rows

section
variable {X : Cx} {pins : List (Addr × Obj)} {σ : List (Option V)} {H H' : Hp} {s : Shared} {h' : Heap}

end

end L2

namespace L2
open PySem PySem.Spec PyProof.Rows
section
variable {X : Cx}

variable {a b : Expr} {ta tb : TE} {pos : Pos}
variable {tA tB' : TT} {rest : List Expr}
end
end L2

namespace L2
open PySem PySem.Spec PyProof.Rows

section
variable {X : Cx} {pins : List (Addr × Obj)} {σ : St} {H : Hp} {s : Shared} {a : Addr} {xs ys : List V}
end

section
variable {X : Cx} {pins : List (Addr × Obj)} {σ : St} {H : Hp} {s : Shared} {E : Value → Shared → Prop}
end

section
variable {X : Cx} {st : Stmt} {rest : List Stmt} {t u : TS} {e : Expr} {te : TE} {pos : Pos}
end

section
variable {X : Cx} {pos : Pos}
end

section
variable {X : Cx} {pos : Pos}
end

end L2

namespace L2
open PySem PySem.Spec PyProof.Rows
section
variable {X : Cx} {tg : Expr}
end

end L2

namespace L2
open PySem PySem.Spec PyProof.Rows

section
variable {X : Cx} {a b c : Expr} {ta tb tc : TE} {pos : Pos}

end

section
variable {X : Cx} {a b c : Expr} {ta tb tc : TE} {pos : Pos}
end
end L2

namespace L2
open PySem PySem.Spec PyProof.Rows

section
variable {prog : Program} {w : World} {A : Around} {E : Value → Shared → Prop} {s : Shared} {K : PySem.W.Frag} {x dx C f : Addr} {mA : Str → Option Value} {name : Str} {v : Value}

end

section
variable {P : Program} {w : World} {H H' : Hp} {h h' : Heap} {a C dx : Addr} {fs fs' : List (Str × V)}
end

section
variable {X : Cx} {pins : List (Addr × Obj)} {σ : St} {H : Hp} {s : Shared} {a C dx : Addr} {fs : List (Str × V)} {f : Str} {v : V} {A : Around} {E : Value → Shared → Prop}

end

section
variable {X : Cx} {o e value : Expr} {f : Str} {pos pos' tpos : Pos} {ta tv : TE}
end

section
variable {X : Cx} {pins : List (Addr × Obj)} {σ : St} {H : Hp} {s : Shared} {A : Around} {E : Value → Shared → Prop} {Q : Value → Shared → Prop} {c : Value} {b : Bool}
end
end L2

namespace L2
open PySem PySem.Spec PyProof.Rows

section
variable {X : Cx} {e : Expr} {es : List Expr} {te : TE} {t : TA} {pos : Pos}
end

section
variable {X : Cx} {pins : List (Addr × Obj)} {σ : St} {H : Hp} {s s' : Shared}
end

section
variable {X : Cx} {CX : CXT} {k : Nat} {f C : Addr} {fd : FuncData} {ps : List Str} {sp : Sp} {dvs : List V} {ds : List Value} {E : XK} {x m : Str} {p pos apos : Pos} {e o : Expr} {es : List Expr} {ta : TE} {t : TA}

end

section
variable {X : Cx} {CX : CXT} {k : Nat} {f C : Addr} {fd : FuncData} {ps ks : List Str} {sp : Sp} {E : XK} {x m : Str} {p pos apos kpos : Pos} {e o : Expr} {es : List Expr} {kws : List Keyword} {te ta : TE} {t tk : TA} {nm : Option Str}
variable {g : List Value → List Value → List Value} {gV : List V → List V → List V}
end

end L2

namespace L2
open PySem PySem.Spec PyProof.Rows
section
variable {X : Cx} {x : Str} {p pos : Pos} {e : Expr} {es : List Expr} {t : TA} {id T : String} {r : List V → Hp → VK → Prop}

end
end L2

namespace L2
open PySem PySem.Spec PyProof.Rows

section
variable {κ : Type} [DecidableEq κ]
def dropK (kvs : List (κ × V)) (k : κ) : List (κ × V) := kvs.filter fun kv => decide (kv.1 ≠ k)

theorem KV.drop {kvs : List (κ × V)} {vs : List (κ × Value)} (r : KV kvs vs) (k : κ) : KV (dropK kvs k) (without vs k) := by
  unfold KV at r ⊢
  unfold dropK without
  induction r with
  | nil => exact .nil
  | @cons p q ps qs h t ih =>
    obtain ⟨h1, h2⟩ := h
    rw [List.filter_cons, List.filter_cons]
    by_cases e : p.1 = k
    · have a : ¬ decide (p.1 ≠ k) = true := by simp [e]
      have b : ¬ decide (q.1 ≠ k) = true := by simp [h1.symm.trans e]
      rw [if_neg a, if_neg b]; exact ih
    · have e' : ¬ q.1 = k := fun z => e (h1.trans z)
      have a : decide (p.1 ≠ k) = true := by simp [e]
      have b : decide (q.1 ≠ k) = true := by simp [e']
      rw [if_pos a, if_pos b]; exact .cons ⟨h1, h2⟩ ih
theorem KV.length {kvs : List (κ × V)} {vs : List (κ × Value)} (r : KV kvs vs) : kvs.length = vs.length := Paired.length r
end


section
variable {P : Program} {w : World} {H : Hp} {h : Heap} {a : Addr}
end

section
variable {X : Cx} {pins : List (Addr × Obj)} {σ : St} {H : Hp} {s : Shared} {a : Addr} {y v : V} {u r : Value} {o : Option V} {A : Around} {E : Value → Shared → Prop}

end

section
variable {X : Cx} {pins : List (Addr × Obj)} {σ : St} {H : Hp} {s : Shared} {a : Addr} {kvs : List (Key × V)} {k : Key} {u : Value} {A : Around} {E : Value → Shared → Prop}
end


section
variable {X : Cx} {o i e value : Expr} {pos pos' tpos : Pos} {td ty tv : TE}
end


section
variable {X : Cx} {pos : Pos}
end

section
variable {X : Cx} {pins : List (Addr × Obj)} {σ : St} {H : Hp} {s : Shared} {a : Addr} {y d : V} {u r : Value} {o : Option V} {A : Around} {E : Value → Shared → Prop}
end

section
variable {X : Cx} {o e f : Expr} {apos cpos : Pos} {td ty tx : TE}
end

section
variable {X : Cx} {pins : List (Addr × Obj)} {σ : St} {H : Hp} {s : Shared} {a : Addr} {kvs : List (Key × V)} {A : Around} {E : Value → Shared → Prop}
end


section
variable {X : Cx} {pins : List (Addr × Obj)} {σ : St} {H : Hp} {s : Shared} {a : Addr} {y : V} {u : Value} {A : Around} {E : Value → Shared → Prop}
end
end L2

namespace Att
open PySem PySem.W PySem.Calls PyProof.Rows

section
variable {prog : Program} {w : World} {A : Around} {E : Value → Shared → Prop} {s : Shared} {K : Frag}

end
end Att

namespace L2
open PySem PySem.Spec PyProof.Rows

end L2

namespace L2
open PySem PySem.Spec PyProof.Rows

end L2

/- THE LAST THEOREM (shape; LID, My.* are yours):
   My.Adr: a structure of the addresses that your layer names (classes, functions); My.Txt K t: a structure (Prop) of the equations over K;
   My.txt_mk : {K} {implicit addresses ..} (e1 : nsIn K mainGlobals "law" = some (some (.ref f))) (e2 : K.lookup f = some ⟨oc, od, .func (fnOf "law" "law" params body scope dV kV doc pm an cdv ct), sl⟩) (e3 : codeIn K cdv "law" = true) .. : ∃ t, My.Txt K t

set_option maxRecDepth 100000 in
set_option maxHeartbeats 0 in
theorem PySem.Challenge.cw_LID_holds : PySem.Challenge.rw_LID.Holds := by
  w_on; o_law; k_head; (case hw => w_witness2)
  k_fill
  refine L2.walk_of (l := PySem.Challenge.rw_LID) (n := 63) (k := 40) (x := "script") (CX := fun w => ..) (sp := fun _ => My.sp_law) rfl (by decide) rfl ⟨rfl, by decide, by decide⟩ (fun w h Y => PySem.W.kIn_of Y) ?F ?S ?C
  case F =>
    intro w mg fa h KX G hmg
    have T : ∃ t, My.Txt (L2.KOf KX) t := by
      dsimp only [L2.KOf]                          -- K must stand as «<heap const> w.params» for k_is
      refine' My.txt_mk ?e1 ?e2 ?e3 ..
      (case e1 => PySem.W.k_is)                    -- in the order: a name -> its address -> its object -> its parts
      (case e2 => PySem.W.k_is)
      ..
    obtain ⟨t, T⟩ := T
    have e0 := hmg.symm.trans (PySem.W.mg_of KX G T.law)
    cases e0                                       -- fa is the law's own address
    exact ⟨_, fun s u => .of_eq rfl, fun base kb nb => My.law_fn T kb nb⟩     -- if «.of_eq rfl» comes too early: refine' ⟨_, ?b, fun base kb nb => My.law_fn T kb nb⟩; exact fun s u => .of_eq rfl
  case S => exact fun w H a ns hl hO hS => ..
  case C => exact ..
(the tactic k_is has no namespace: write k_is) -/

namespace L2
open PySem PySem.Spec PyProof.Rows

section
variable {P : Program} {w : World} {K : PySem.W.Frag} {mg : Str → Option Value} {base : Heap}
end
section
variable {X : Cx}
end

section
variable {κ : Type} [DecidableEq κ]
end
end L2


set_option Elab.async false
set_option linter.all false
set_option maxRecDepth 100000
set_option maxHeartbeats 4000000
namespace L2
open PySem PySem.Spec PyProof.Rows
section
variable {X : Cx} {st : Stmt} {rest : List Stmt} {t u : TS}
/-- a statement by what holds behind it, whichever way it went -/
def tCut (t u : TS) : TS := fun D σ H => ∃ R : St → Hp → Prop, t { D with nx := R } σ H ∧ ∀ σ' H', R σ' H' → u D σ' H'
theorem pss_cut (h1 : PS X st t) (h2 : PSs X rest u) : PSs X (st :: rest) (tCut t u) := by
  rintro pins s σ H D I ⟨R, h, hR⟩
  refine wpAny_execs_cons (thn (h1 pins s σ H { D with nx := R } I h) fun f s1 q => ?_)
  cases f with
  | next =>
    obtain ⟨σ', H', I', q⟩ := q
    exact h2 pins s1 σ' H' D I' (hR _ _ q)
  | ret v => exact q
  | brk => exact q
  | cont => exact q
/-- a call of a def of the text -/
theorem pe_cD {CX : CXT} {x : Str} {sd : Stmt} {ps : List Str} {f : Addr} {fd : FuncData} {sp : Sp} {j k : Nat} {E : XK} {e : Expr} {es : List Expr} {p pos : Pos} {t : TA} (D : Tw.Df X.K X.mg x sd ps f fd) (F : FnOk X.prog X.w X.K X.mg X.base CX j f fd ps sp) (hj : j ≤ k) (hr : Room k X.A) (hx : Passes CX X E) (hg : Gl X x)
    (ha : PA X (e :: es) t) (hdb : (x == ("__debug__" : Str)) = false := by decide) (he : starEach (e :: es) X.env = (false, eval e X.env) :: starEach es X.env := by rfl) (hpl : (backTo pos (starEach es X.env)).any (·.1) = false := by rfl) :
    PE X (.Call (.Name x p) (e :: es) [] pos) (tCall sp [] E t) := pe_call (F.mono hj) hr hg D.m D.F.kp D.b .nil hx ha hdb he hpl
end
end L2
namespace Tw
open PySem L2
end Tw

set_option Elab.async false
set_option linter.all false
set_option maxRecDepth 100000
set_option maxHeartbeats 4000000
namespace Tw
theorem blk_lt : ∀ {ns : List Int}, IsBits ns → blk ns < 2 ^ ns.length
  | [], _ => by simp [blk]
  | b :: r, h => by
    have := blk_lt h.tail
    have := h.head
    rw [List.length_cons, Int.pow_succ]
    simp only [blk]
    omega
theorem blk_turn : ∀ l : List Int, blk (l.map fun x => 1 - x) = 2 ^ l.length - 1 - blk l
  | [] => by simp [blk]
  | x :: l => by
    rw [List.map_cons, List.length_cons, Int.pow_succ]
    simp only [blk]
    rw [blk_turn l]
    omega
theorem sum_turn : ∀ (l : List Int) (k : Nat), k ≤ l.length → ((l.map fun x => 1 - x).take k).sum = k - (l.take k).sum
  | _, 0, _ => by simp
  | [], k + 1, h => by simp at h
  | x :: l, k + 1, h => by
    have := sum_turn l k (by simpa using h)
    rw [List.map_cons, List.take_succ_cons, List.take_succ_cons, List.sum_cons, List.sum_cons, this]
    omega
theorem turned {b : Int} (h0 : 0 ≤ b) (h1 : b < 2 ^ 32) : (∀ k : Nat, k < 32 → bit (2 ^ 32 - 1 - b) k = 1 - bit b k) ∧ ∀ k : Nat, k ≤ 32 → ones (2 ^ 32 - 1 - b) k = k - ones b k := by
  have hb := isBits_bits b 32
  have e := blk_bits 32 b h0 h1
  have hl := bits_length b 32
  have ht : IsBits ((bits b 32).map fun x => 1 - x) := fun x hx => by
    obtain ⟨y, hy, rfl⟩ := List.mem_map.mp hx
    have := hb y hy
    omega
  have et : blk ((bits b 32).map fun x => 1 - x) = 2 ^ 32 - 1 - b := by rw [blk_turn, hl, e]
  refine ⟨fun k hk => ?_, fun k hk => ?_⟩
  · rw [← et, bit_blk ht, List.getElem?_map, bits_get hk]
    rfl
  · rw [← et, ones_blk ht, sum_turn _ _ (by omega), ← ones_blk hb, e]
def nz (ns : List Int) (n : Nat) : List Int := (List.range n).map fun k : Nat => 32 * (k : Int) - (ns.take (32 * k)).sum
end Tw

set_option Elab.async false
set_option linter.all false
set_option maxRecDepth 100000
set_option maxHeartbeats 4000000
namespace Tw
open PySem L2
/-- the node over node j at depth g: itself or the last one ahead that is so deep, with all between deeper -/
def UpN (ds : List Int) (j : Nat) (g : Int) (i : Nat) : Prop := i ≤ j ∧ ds[i]? = some g ∧ ∀ m x, i < m → m ≤ j → ds[m]? = some x → g < x
theorem UpN.trans {ds : List Int} {j i e : Nat} {g : Int} (h : UpN ds j g i) (h' : UpN ds i (g - 1) e) : UpN ds j (g - 1) e := by
  obtain ⟨a1, a2, a3⟩ := h
  obtain ⟨b1, b2, b3⟩ := h'
  refine ⟨by omega, b2, fun m x m1 m2 e => ?_⟩
  rcases Nat.lt_or_ge i m with z | z
  · have := a3 m x z m2 e
    omega
  · exact b3 m x m1 z e
/-- how many nodes from k on, one behind the other, are deeper than g -/
def run (ds : List Int) (k : Nat) (g : Int) : Nat := ((ds.drop k).takeWhile fun x => decide (g < x)).length
end Tw

set_option Elab.async false
set_option linter.all false
set_option maxRecDepth 100000
set_option maxHeartbeats 4000000
namespace L2
open PySem PySem.Spec PyProof.Rows
/-- f(..), f a name that holds a def of the text -/
def tCallV (i : Nat) (f : Addr) (sp : Sp) (E : XK) (t : TA) : TE := fun σ H Q => σ[i]? = some (some (.ref f)) ∧ t σ H fun vs H1 => sp vs H1 Q E
theorem pe_callV {X : Cx} {CX : CXT} {j k i : Nat} {f : Addr} {fd : FuncData} {ps : List Str} {sp : Sp} {E : XK} {x : Str} {p pos : Pos} {e : Expr} {es : List Expr} {t : TA} (F : FnOk X.prog X.w X.K X.mg X.base CX j f fd ps sp) (hj : j ≤ k) (hr : Room k X.A) (hx : Passes CX X E) (hi : X.N[i]? = some x) (hk : PySem.W.keepIn X.K (.ref f) = true) (hb : Binds X.K fd ps []) (ha : PA X (e :: es) t)
    (hv : Vis X.env.scope x := by first | exact Or.inl rfl | exact Or.inr (Or.inl rfl) | exact Or.inr (Or.inr rfl)) (hd : (x == ("__debug__" : Str)) = false := by decide) (hcd : (x == ("__classdict__" : Str)) = false := by decide)
    (he : starEach (e :: es) X.env = (false, eval e X.env) :: starEach es X.env := by rfl) (hpl : (backTo pos (starEach es X.env)).any (·.1) = false := by rfl) : PE X (.Call (.Name x p) (e :: es) [] pos) (tCallV i f sp E t) := by
  intro pins s σ H Q I h
  obtain ⟨hs, h⟩ := h
  refine wpAny_Call_Name_kw (thn (pe_var hi hv hd hcd pins s σ H (fun v H' => v = .ref f ∧ H' = H) I ⟨_, hs, rfl, rfl⟩) fun u s1 hu => ?_)
  obtain ⟨v, H1, I1, rv, rfl, rfl⟩ := hu
  obtain rfl : u = Value.ref f := rv
  refine PySem.W.callWith_K (h₀ := X.base) I1.ok.mod.kin hk (thn (ha pos pins s1 σ H1 _ I1 h) fun us s2 ⟨vs, H2, I2, r, q⟩ => ⟨I2.kIn, ?_⟩) he hpl
  exact run_fn (F.mono hj) hr hb .nil hx I2 r (by rw [List.append_nil]; exact q)
end L2

set_option Elab.async false
set_option linter.all false
set_option maxRecDepth 100000
set_option maxHeartbeats 4000000
namespace L2
open PySem PySem.Spec PyProof.Rows

/-! ### exceptions without a context: they keep so while they pass -/
def TrC (h base : Heap) (e : Addr) (cls a0 cx fl : Value) : Prop :=
  ∃ o vs T p ts, h.get? e = some o ∧ o.cls = cls ∧ o.data = .fields vs ∧ vs[0]? = some a0 ∧ vs[2]? = some cx ∧ vs[1]? = some (.ref T) ∧ base.get? T = none ∧ T ≠ e ∧ h.get? T = some p ∧ p.data = .fields ts ∧ ts[3]? = some fl
/-- an exception that passes, with the context cx -/
structure FlyX (base : Heap) (l : List Env) (e : Addr) (cls a0 cx fl : Value) (h : Heap) : Prop where
  stay : base.StaysIn h
  new : base.get? e = none
  fun_ : h.FunFrames base l
  tr : TrC h base e cls a0 cx fl
abbrev FlyC (base : Heap) (l : List Env) (e : Addr) (cls a0 fl : Value) (h : Heap) : Prop := FlyX base l e cls a0 .none fl h
def NoCtx (e : Addr) (h : Heap) : Prop := ∃ o vs, h.get? e = some o ∧ o.data = .fields vs ∧ vs[2]? = some Value.none
section
variable {base h : Heap} {l : List Env} {e L : Addr} {cls a0 cx fl : Value}
theorem TrC.w (x : TrC h base e cls a0 cx fl) : h.TracedAtW base e cls a0 fl := by
  obtain ⟨o, vs, T, p, ts, c1, c2, c3, c4, c5, c6, c7, c8, c9, d1, d2⟩ := x
  exact ⟨o, vs, T, p, ts, c1, ⟨c2, c4⟩, c3, c6, c7, c8, c9, d1, d2⟩
theorem FlyX.w (x : FlyX base l e cls a0 cx .none h) : Heap.FlyingW base l e cls a0 h := ⟨x.stay, x.new, x.fun_, x.tr.w⟩
theorem FlyX.tail {env : Env} (x : FlyX base (env :: l) e cls a0 cx fl h) : FlyX base l e cls a0 cx fl h := ⟨x.stay, x.new, x.fun_.2.2, x.tr⟩
end
section
variable {M : Model} {A : Around} {E : Value → Shared → Prop} {s : Shared} {base : Heap} {l outer : List Env} {env : Env} {e L : Addr} {cls a0 cx fl : Value} {Q : Unit → Shared → Prop}
theorem rec_ne {h : Heap} {T : Addr} {p : Obj} {ts : Array Value} (hT : h.get? T = some p) (hd : p.data = .fields ts) {b : Addr} {o : Obj} (hb : h.get? b = some o) (n : ∀ vs, o.data ≠ .fields vs) : T ≠ b := by
  rintro rfl
  rw [hT] at hb
  cases hb
  exact n _ hd
/-- the flight of an exception is set: one field of its newest entry -/
theorem fly_at (y : FlyX base l e cls a0 cx fl s.heap) :
    ∃ o vs T p ts, s.heap.get? e = some o ∧ o.data = .fields vs ∧ vs[1]? = some (.ref T) ∧ s.heap.get? T = some p ∧ p.data = .fields ts ∧ ts[3]? = some fl ∧
      ∀ (x : Value) (Q : Unit → Shared → Prop), (∀ h', FlyX base l e cls a0 cx x h' → s.heap.UpToSlots h' → Q () { s with heap := h' }) → wpAny M A (setField (.ref T) 3 x) Q E s := by
  obtain ⟨st, nw, fu, o, vs, T, p, ts, c1, c2, c3, c4, c5, c6, c7, c8, c9, d1, d2⟩ := y
  have lt : 3 < ts.size := (Array.getElem?_eq_some_iff.mp d2).1
  have eqs : ∀ x b, T ≠ b → (s.heap.update T (Obj.mapFields (·.setIfInBounds 3 x))).get? b = s.heap.get? b := fun x b hb => Heap.get?_update_other _ _ hb
  refine ⟨o, vs, T, p, ts, c1, c3, c6, c9, d1, d2, fun x Q k => wpAny_setField c9 d1 lt (k _ ⟨fun b w hb => ?_, nw, fu.of_keeps fun b w hb n => ⟨w, ?_, rfl⟩, ?_⟩ fun b w hb n => ⟨w.slots, ?_⟩)⟩
  · rw [eqs x b fun z => by rw [← z, c7] at hb; cases hb]
    exact st b w hb
  · rw [eqs x b (rec_ne c9 d1 hb n)]
    exact hb
  · refine ⟨o, vs, T, _, _, ?_, c2, c3, c4, c5, c6, c7, c8, Heap.get?_update_self _ c9 (Obj.isFreed_of_fields (Obj.data_mapFields d1 _)), Obj.data_mapFields d1 _, ?_⟩
    · rw [eqs x e c8]
      exact c1
    · simp [lt]
  · rw [eqs x b (rec_ne c9 d1 hb n)]
    exact hb
theorem fly_set {f : Option Addr} (y : FlyX base l e cls a0 cx fl s.heap) (k : ∀ h', FlyX base l e cls a0 cx (f.elim .none fun f => rawInt f) h' → s.heap.UpToSlots h' → Q () { s with heap := h' }) : wpAny M A (setFlight (.ref e) f) Q E s := by
  obtain ⟨o, vs, T, p, ts, c1, c3, c6, c9, d1, d2, g⟩ := fly_at (M := M) (A := A) (E := E) y
  unfold setFlight
  refine wpAny_bind (wpAny_field c1 c3 c6 ?_)
  have : (Value.ref T != Value.none) = true := by simp
  rw [if_pos this]
  exact g _ _ k
/-- a new entry ahead of what was noted -/
theorem fly_entry {o : Obj} {vs : Array Value} {hd : Value} {b : Bool} (fr : A.frames = some (env :: outer)) (ef : env.frame = some L) (st : base.StaysIn s.heap) (nw : base.get? e = none) (fu : s.heap.FunFrames base (env :: outer))
    (c1 : s.heap.get? e = some o) (c3 : o.data = .fields vs) (c4 : vs[0]? = some a0) (c5 : vs[2]? = some cx)
    (k : ∀ h', FlyX base (env :: outer) e o.cls a0 cx (rawInt L) h' → s.heap.UpToSlots h' → Q () { s with heap := h' }) :
    wpAny M A (do let x ← frameOf env; let y ← entryPlaceOf L b; let z ← EntryCells.newEntry hd x .none (rawInt L) .none y; setField (.ref e) 1 z) Q E s := by
  have lt2 : 2 < vs.size := (Array.getElem?_eq_some_iff.mp c5).1
  have lt : 1 < vs.size := Nat.lt_trans (by decide) lt2
  have nin : e ∉ (env :: outer).filterMap (·.frame) := fun z => by
    obtain ⟨_, q, hq, nf⟩ := fu.mem z
    rw [c1] at hq
    cases hq
    exact nf _ c3
  refine wpAny_bind (wpAny_frameOf_fun fr fu ef fun h1 so => ?_)
  refine wpAny_bind (wpAny_entryPlaceOf fun pl ip => ?_)
  unfold EntryCells.newEntry newFields
  refine wpAny_bind (wpAny_newObj_type ?_ (ip.sizeOk5 ..))
  have e1 : h1.get? e = some o := (so.2.1 e nin).trans c1
  have st1 : base.StaysIn h1 := fun a w ha => by
    rw [so.2.1 a fun z => by rw [(fu.mem z).1] at ha; cases ha]
    exact st a w ha
  generalize hp : ({ cls := .type "traceback", dict := none, data := .fields ([hd, .ref L, .none, rawInt L, .none] ++ (if pl.isEmpty then List.replicate 6 Value.none else pl)).toArray } : Obj) = p
  have pd : p.data = .fields ([hd, .ref L, .none, rawInt L, .none] ++ (if pl.isEmpty then List.replicate 6 Value.none else pl)).toArray := by rw [← hp]
  have nf : p.isFreed = false := Obj.isFreed_of_fields pd
  have e2 : (h1.push p).get? e = some o := Heap.get?_push_of_some _ e1
  have ne : h1.objs.size ≠ e := Nat.ne_of_gt (Heap.lt_size e1)
  refine wpAny_setField e2 c3 lt (k _ ⟨fun a w ha => ?_, nw, fu.of_keeps fun a w ha n => ?_, ?_⟩ fun a w ha n => ?_)
  · rw [Heap.get?_update_other _ _ fun z => by rw [← z, nw] at ha; cases ha]
    exact Heap.get?_push_of_some _ (st1 a w ha)
  · obtain ⟨sl, hs⟩ := so.2.2 a w ha
    refine ⟨{ w with slots := sl }, ?_, rfl⟩
    rw [Heap.get?_update_other _ _ (rec_ne c1 c3 ha n)]
    exact Heap.get?_push_of_some _ hs
  · refine ⟨_, _, h1.objs.size, p, _, Heap.get?_update_self _ e2 (Obj.isFreed_of_fields (Obj.data_mapFields c3 _)), Obj.cls_mapFields .., Obj.data_mapFields c3 _, ?_, ?_, ?_, st1.fresh, ne, ?_, pd, ?_⟩
    · rw [Array.getElem?_setIfInBounds_ne (by decide)]
      exact c4
    · rw [Array.getElem?_setIfInBounds_ne (by decide)]
      exact c5
    · simp [lt]
    · rw [Heap.get?_update_other _ _ (Ne.symm ne)]
      exact Heap.get?_push_size h1 nf
    · simp
  · obtain ⟨sl, hs⟩ := so.2.2 a w ha
    refine ⟨sl, ?_⟩
    rw [Heap.get?_update_other _ _ (rec_ne c1 c3 ha n)]
    exact Heap.get?_push_of_some _ hs
/-- an exception that is new is noted -/
theorem fly_first {o : Obj} {vs : Array Value} (fr : A.frames = some (env :: outer)) (ef : env.frame = some L) (st : base.StaysIn s.heap) (nw : base.get? e = none) (fu : s.heap.FunFrames base (env :: outer))
    (c1 : s.heap.get? e = some o) (c3 : o.data = .fields vs) (c4 : vs[0]? = some a0) (c6 : vs[1]? = some Value.none) (c5 : vs[2]? = some cx)
    (k : ∀ h', FlyX base (env :: outer) e o.cls a0 cx (rawInt L) h' → s.heap.UpToSlots h' → Q () { s with heap := h' }) : wpAny M A (noteFrame (.ref e) env) Q E s := by
  unfold noteFrame
  simp only [ef]
  refine wpAny_bind (wpAny_field c1 c3 c6 ?_)
  rw [if_neg (by decide)]
  exact fly_entry fr ef st nw fu c1 c3 c4 c5 k
theorem fly_note (fr : A.frames = some (env :: outer)) (ef : env.frame = some L) (y : FlyX base (env :: outer) e cls a0 cx .none s.heap)
    (k : ∀ h', FlyX base (env :: outer) e cls a0 cx (rawInt L) h' → s.heap.UpToSlots h' → Q () { s with heap := h' }) : wpAny M A (noteFrame (.ref e) env) Q E s := by
  obtain ⟨o, vs, T, p, ts, c1, c3, c6, c9, d1, d2, g⟩ := fly_at (M := M) (A := A) (E := E) y
  unfold noteFrame
  simp only [ef]
  refine wpAny_bind (wpAny_field c1 c3 c6 ?_)
  have n1 : (Value.ref T != Value.none) = true := by simp
  rw [if_pos n1]
  refine wpAny_bind (wpAny_field c9 d1 d2 ?_)
  have n2 : ¬ ((Value.none == rawInt L) = true) := by simp [rawInt]
  rw [if_neg n2]
  refine wpAny_bind (g _ _ fun h' y' up => ?_)
  obtain ⟨st, nw, fu, o, vs, T', p, ts, c1, rfl, c3, c4, c5, c6, r⟩ := y'
  exact fly_entry (s := { s with heap := h' }) fr ef st nw fu c1 c3 c4 c5 fun h2 f2 u2 => k h2 f2 (up.trans u2)
/-- it leaves -/
theorem fly_leaves (fr : A.frames = some (env :: outer)) (ef : env.frame = some L) (y : FlyX base (env :: outer) e cls a0 cx .none s.heap)
    (k : ∀ h', FlyX base outer e cls a0 cx .none h' → s.heap.UpToSlots h' → Q () { s with heap := h' }) : wpAny M A (leaving env (.ref e)) Q E s := by
  unfold leaving
  refine wpAny_bind (fly_note fr ef y fun h1 y1 u1 => ?_)
  exact fly_set (s := { s with heap := h1 }) (f := none) y1 fun h2 y2 u2 => k h2 y2.tail (u1.trans u2)
theorem fly_leaves_first {o : Obj} {vs : Array Value} (fr : A.frames = some (env :: outer)) (ef : env.frame = some L) (st : base.StaysIn s.heap) (nw : base.get? e = none) (fu : s.heap.FunFrames base (env :: outer))
    (c1 : s.heap.get? e = some o) (c3 : o.data = .fields vs) (c4 : vs[0]? = some a0) (c6 : vs[1]? = some Value.none) (c5 : vs[2]? = some cx)
    (k : ∀ h', FlyX base outer e o.cls a0 cx .none h' → s.heap.UpToSlots h' → Q () { s with heap := h' }) : wpAny M A (leaving env (.ref e)) Q E s := by
  unfold leaving
  refine wpAny_bind (fly_first fr ef st nw fu c1 c3 c4 c6 c5 fun h1 y1 u1 => ?_)
  exact fly_set (s := { s with heap := h1 }) (f := none) y1 fun h2 y2 u2 => k h2 y2.tail (u1.trans u2)
/-- it is raised in a handler's suite, and leaves the frame -/
theorem fly_out {A' : Around} {Qx : Value → Unit → Shared → Prop} {Ex : Value → Value → Shared → Prop} {o : Obj} {vs : Array Value} (fr' : A'.frames = some (env :: outer)) (ef : env.frame = some L) (st : base.StaysIn s.heap) (nw : base.get? e = none) (fu : s.heap.FunFrames base (env :: outer))
    (c1 : s.heap.get? e = some o) (c3 : o.data = .fields vs) (c4 : vs[0]? = some a0) (c6 : vs[1]? = some Value.none) (c5 : vs[2]? = some cx)
    (k : ∀ h', FlyX base outer e o.cls a0 cx .none h' → s.heap.UpToSlots h' → Qx (.ref e) () { s with heap := h' }) : notedBy M A' env (cameBackBy M A env (fun x s' => wpAny M A (leaving env x) (Qx x) (Ex x) s')) (.ref e) s := by
  refine fly_first fr' ef st nw fu c1 c3 c4 c6 c5 fun h1 y1 u1 => ?_
  obtain ⟨o1, vs1, T, p, ts, d1, d2, d3, d4, d5, d6, d7, d8, d9, g1, g2⟩ := id y1.tr
  refine wpAny_bind (wpAny_field d1 d3 d6 ?_)
  have n1 : ¬ ((Value.ref T == Value.none) = true) := by simp
  rw [if_neg n1]
  refine fly_set (s := { s with heap := h1 }) (f := env.frame) y1 fun h2 y2 u2 => ?_
  rw [ef] at y2
  show wpAny M A (leaving env (.ref e)) (Qx (.ref e)) _ { s with heap := h2 }
  unfold leaving
  refine wpAny_bind (wpAny_noteFrame_againW ef y2.tr.w ?_)
  exact fly_set (s := { s with heap := h2 }) (f := none) y2 fun h3 y3 u3 => k h3 y3.tail ((u1.trans u2).trans u3)
end
end L2
namespace L2
open PySem PySem.Spec PyProof.Rows
/-! ### raise C(a) from None, while an exception without a context is handled -/
theorem entry_unchain : entryFor table "proto.unchain" = some Builtin.«proto.unchain» := entryFor_of_tree (by kernel_rfl)
section
variable {prog : Program} {w : World} {A : Around} {E : Value → Shared → Prop} {s : Shared} {env : Env}
theorem raise_under {α : Type} {e ea : Addr} {o : Obj} {vs : Array Value} {Q : α → Shared → Prop} (hh : A.handled = some (.ref ea)) (ne : ea ≠ e) (n : NoCtx ea s.heap) (c1 : s.heap.get? e = some o) (c3 : o.data = .fields vs) (lt : 2 < vs.size)
    (k : E (.ref e) { s with heap := s.heap.update e (Obj.mapFields (·.setIfInBounds 2 (.ref ea))) }) : wpAny (model prog w) A (raiseNew (.ref e) : Sem α) Q E s := by
  unfold raiseNew
  refine wpAny_bind (wpAny_handled ?_)
  rw [hh]
  have n1 : (Value.ref ea != Value.ref e) = true := by simpa using ne
  obtain ⟨oa, va, a1, a2, a3⟩ := n
  simp only [n1, if_true]
  refine wpAny_bind (wpAny_holding (wpAny_runValue (codeAny_builtin entry_unchain ?_)))
  unfold Builtin.«proto.unchain»
  refine wpAny_bind (wpAny_field a1 a2 a3 ?_)
  simp only [beq_self_eq_true, if_true]
  refine wpAny_bind (wpAny_pure (wpAny_pure ?_))
  refine wpAny_bind ?_
  unfold updateField
  refine wpAny_bind (wpAny_load c1 ?_)
  rw [c3]
  simp only [lt, if_true]
  exact wpAny_update c1 (wpAny_throw k)
theorem raise_none {x : Sem Value} {c : Sem Value} {ea C : Addr} {nm q : Str} {N : Addr} {bs bm : List Value} {hdct : Bool} {sn : List Str} {sub : List Value} {ab : Bool} {col : Option Bool} {dd : Option Addr} {k0 k1 k2 k3 k5 : Option Value} {newId : String} {Q : Flow → Shared → Prop}
    (hb : bm.contains (.type "BaseException") = true) (hh : A.handled = some (.ref ea)) (hc : ∀ s, wpAny (model prog w) A c (fun v s' => v = .none ∧ s' = s) E s)
    (h : wpAny (model prog w) A x (fun v s1 => ∃ e t, v = .ref e ∧ s1.heap.get? C = some (excClassObj nm q C N bs bm hdct sn sub ab col dd k0 k1 k2 k3 k5 newId) ∧ NoCtx ea s1.heap ∧ ea ≠ e ∧
      s1.heap.get? e = some { cls := .ref C, data := .fields #[.ref t, .none, .none, .none, .bool false, .none] } ∧
      ∀ h', (∀ b, b ≠ e → h'.get? b = s1.heap.get? b) → h'.get? e = some { cls := .ref C, data := .fields #[.ref t, .none, .ref ea, .none, .bool true, .none] } → E (.ref e) { s1 with heap := h' }) E s) :
    wpAny (model prog w) A (raiseStmt env (some x) (some c)) Q E s := by
  have hcB : (Value.ref C :: bm).contains (.type "BaseException") = true := by rw [List.contains_cons, hb, Bool.or_true]
  unfold raiseStmt
  refine wpAny_bind (wpAny_mono h (fun v s1 h1 => ?_) fun _ _ z => z)
  obtain ⟨e, t, rfl, hC, n, ne, he, hE⟩ := h1
  refine wpAny_bind (wpAny_holding (wpAny_mono (hc s1) (fun v s2 z => ?_) fun _ _ z => z))
  obtain ⟨rfl, rfl⟩ := z
  refine wpAny_bind (wpAny_pure ?_)
  obtain ⟨hp, g, d, tk, os⟩ := s2
  repeat (first | with_reducible refine wpAny_loadPart_at he ?_ | with_reducible refine wpAny_loadPart_at hC ?_ | (with_reducible refine wpAny_isSubtype_exc hC ?_; rw [hcB]) | wp_step)
  have ec : e ≠ C := by
    rintro rfl
    rw [show hp.get? e = _ from hC] at he
    cases he
  generalize hh2 : (hp.update e (Obj.mapFields fun x => x.setIfInBounds 3 Value.none)).update e (Obj.mapFields fun x => x.setIfInBounds 4 (Value.bool true)) = hp2
  have oth : ∀ b, b ≠ e → hp2.get? b = hp.get? b := fun b hb => by rw [← hh2, Heap.get?_update_other _ _ (Ne.symm hb), Heap.get?_update_other _ _ (Ne.symm hb)]
  have he2 : hp2.get? e = some { cls := .ref C, data := .fields #[.ref t, .none, .none, .none, .bool true, .none] } := by
    have z := Heap.get?_update_self (Obj.mapFields fun x => x.setIfInBounds 3 Value.none) he rfl
    rw [← hh2, Heap.get?_update_self _ z rfl]
    rfl
  have hC2 : hp2.get? C = _ := (oth C (Ne.symm ec)).trans hC
  repeat (first | with_reducible refine wpAny_loadPart_at he2 ?_ | with_reducible refine wpAny_loadPart_at hC2 ?_ | (with_reducible refine wpAny_isSubtype_exc hC2 ?_; rw [hcB]) | wp_step)
  obtain ⟨oa, va, a1, a2, a3⟩ := n
  refine raise_under (s := ⟨hp2, g, d, tk, os⟩) hh ne ⟨oa, va, (oth ea ne).trans a1, a2, a3⟩ he2 rfl (by show 2 < 6; decide) (hE _ (fun b hb => ?_) ?_)
  · rw [Heap.get?_update_other _ _ (Ne.symm hb)]
    exact oth b hb
  · rw [Heap.get?_update_self _ he2 rfl]
    rfl
theorem exec_raise_none {mN : Str → Option Value} {x : Str} {np cpos cp pos : Pos} {j : Nat} {args : List Expr} {ea C : Addr} {nm q : Str} {N : Addr} {bs bm bmB bmN : List Value} {hdct : Bool} {sn : List Str} {sub : List Value} {ab : Bool} {col : Option Bool} {dd : Option Addr} {k0 k1 k2 k3 k5 : Option Value} {B Bn newId nid initId inN : String} {Q : Flow → Shared → Prop}
    (Fn : ExcBaseFacts Bn newId inN bmN) (hBn : bmB.contains (.type Bn) = true) (F : ExcBaseFacts B nid initId bmB) (hb : bm.contains (.type "BaseException") = true) (hh : A.handled = some (.ref ea))
    (hp : (backTo cpos (starEach args env)).any (·.1) = false) (hni : mN "__init__" = none)
    (h : wpAny (model prog w) A (eval (.Name x np) env) (fun f s1 => f = .ref C ∧ wpAny (model prog w) A (evalArgs (.ref C) true (backTo cpos (starEach args env)) [])
      (fun a s2 => a.kw = [] ∧ a.pos.length ≤ sizeLine ∧ s2.heap.get? C = some (excClassObj nm q C N bs bm hdct sn sub ab col dd k0 k1 k2 k3 k5 newId) ∧ s2.heap.Ns N mN ∧ OwnTail s2.heap bmB bm ∧ NoCtx ea s2.heap ∧
        ∀ h1 e t, (∀ b o, s2.heap.get? b = some o → h1.get? b = some o) → s2.heap.get? e = none → s2.heap.get? t = none → h1.get? t = some { cls := .type "tuple", data := .seq a.pos.toArray } →
          h1.get? e = some { cls := .ref C, data := .fields #[.ref t, .none, .ref ea, .none, .bool true, .none] } → E (.ref e) { s2 with heap := h1 }) E s1) E s) :
    wpAny (model prog w) A (exec (.Raise (some (.Call (.Name x np) args [] cpos)) (some (.Constant .none j cp)) pos) env) Q E s := by
  rw [arm_exec_Raise]
  simp only [evalOpt, Option.map]
  refine wpAny_bind (wpAny_standAt (raise_none (C := C) (nm := nm) (q := q) (N := N) (bs := bs) (bm := bm) (hdct := hdct) (sn := sn) (sub := sub) (ab := ab) (col := col) (dd := dd) (k0 := k0) (k1 := k1) (k2 := k2) (k3 := k3) (k5 := k5) (newId := newId) hb hh (fun s => ?_) ?_))
  · exact wpAny_bind (wpAny_Constant_none (wpAny_bind (wpAny_standAt (wpAny_pure ⟨rfl, rfl⟩))))
  refine wpAny_bind (wpAny_mono (wpAny_Call_ofName (wpAny_mono h (fun f s1 h1 => ?_) fun _ _ z => z)) (fun v s3 h3 => wpAny_bind (wpAny_standAt (wpAny_pure h3))) fun _ _ z => z)
  obtain ⟨rfl, h1⟩ := h1
  unfold callWith
  refine wpAny_bind (wpAny_holding (wpAny_mono h1 (fun a s2 h2 => wpAny_bind (wpAny_standAt ?_)) fun _ _ z => z))
  obtain ⟨ap, ak⟩ := a
  obtain ⟨z, len, hC, hn, T, nc, h2⟩ := h2
  obtain rfl : ak = [] := z
  obtain ⟨hq, g, d, tk, os⟩ := s2
  simp only [hp]
  refine wpAny_bind (wpAny_keeperOf_exc hC (wpAny_bind (wpAny_call_exc_subU (hrest := len) Fn hBn F T hC hn hni fun h' e hm => wpAny_bind (wpAny_holding (wpAny_point (wpAny_pure ?_))))))
  obtain ⟨t, ht, hnt, htt⟩ := hm.there
  obtain ⟨oa, va, a1, a2, a3⟩ := nc
  refine ⟨e, t, rfl, hm.keeps _ _ hC, ⟨oa, va, hm.keeps _ _ a1, a2, a3⟩, fun z => (by rw [z, hm.new] at a1; cases a1), ht, fun h1 o1 e1 => h2 h1 e t (fun b o hb => ?_) hm.new hnt ?_ e1⟩
  · rw [o1 b fun z => by rw [z, hm.new] at hb; cases hb]
    exact hm.keeps b o hb
  · rw [o1 t fun z => by rw [z, ht] at htt; cases htt]
    exact htt
end
end L2
namespace L2
open PySem PySem.Spec PyProof.Rows
section
variable {M : Model} {A : Around} {E : Value → Shared → Prop} {s : Shared} {base : Heap} {outer : List Env} {env : Env} {e L : Addr} {cls : Value} {Q : Unit → Shared → Prop}
theorem fly_made {h : Heap} {args : List Value} (fr : A.frames = some (env :: outer)) (ef : env.frame = some L) (st : base.StaysIn h) (fu : h.FunFrames base (env :: outer)) (m : Heap.MadeExcOf h s.heap e cls args)
    (k : ∀ h' t, FlyC base outer e cls (.ref t) .none h' → s.heap.UpToSlots h' → Q () { s with heap := h' }) : wpAny M A (leaving env (.ref e)) Q E s := by
  obtain ⟨t, he, _, _⟩ := m.there
  have nw : base.get? e = none := by
    cases q : base.get? e with
    | none => rfl
    | some o =>
      have z := st e o q
      rw [m.new] at z
      cases z
  exact fly_leaves_first fr ef (fun b o hb => m.keeps b o (st b o hb)) nw (fu.of_keeps fun b o hb _ => ⟨o, m.keeps b o hb, rfl⟩) he rfl rfl rfl rfl fun h' y u => k h' t y u
end
/-- how an exception of an own class lies behind a call, if it has no context -/
def CXC (P : Program) (w : World) : CXT := fun outer H s E e s' => ∃ (ea C t : Addr) (B : Heap) (H' : Hp), e = .ref ea ∧ s'.os = s.os ∧ AllBare s'.gens ∧ Un (frs outer) [] H H' s.heap s'.heap ∧ HOk P w H' s'.heap ∧
    FlyC B outer ea (.ref C) (.ref t) .none s'.heap ∧ Cov B (frs outer) H H' s.heap ∧ E (.ref C) none H'
theorem CXC.weak {P : Program} {w : World} {outer : List Env} {H : Hp} {s s' : Shared} {E : XK} {e : Value} (h : CXC P w outer H s E e s') : CX1 P w outer H s E e s' := by
  obtain ⟨ea, C, t, B, H', a1, a2, a3, a4, a5, a6, a7, a8⟩ := h
  exact ⟨ea, C, t, B, H', a1, a2, a3, a4, a5, a6.w, a7, a8⟩
section
variable {P : Program} {w : World} {K : PySem.W.Frag} {mg : Str → Option Value} {base : Heap} {N : List Str} {qual : Str} {scope : Scope} {f : Addr} {cd : Value} {A : Around} {outer : List Env} {s0 : Shared} {H0 : Hp} {E : XK}
abbrev XC (P : Program) (w : World) (K : PySem.W.Frag) (mg : Str → Option Value) (base : Heap) (N : List Str) (qual : Str) (scope : Scope) (f : Addr) (cd : Value) (A : Around) (outer : List Env) (s0 : Shared) (H0 : Hp) (E : XK) : Cx :=
  cxOf (CXC P w) P w K mg base N qual scope f cd A outer s0 H0 E
theorem raisedC {pins : List (Addr × Obj)} {σ : St} {H : Hp} {s : Shared} {h1 : Heap} {ea C : Addr} {vs : List Value} (I : Inv (XC P w K mg base N qual scope f cd A outer s0 H0 E) pins σ H s) (m : Heap.MadeExcOf s.heap h1 ea (.ref C) vs) (q : E (.ref C) none H) :
    (XC P w K mg base N qual scope f cd A outer s0 H0 E).xe (.ref ea) { s with heap := h1 } := by
  have stk : s.heap.FunFrames base (envOfC qual scope s0.heap.objs.size f cd :: outer) := I.stack
  have hin : ∀ env ∈ (envOfC qual scope s0.heap.objs.size f cd :: outer), ∀ b, env.frame = some b → b ∈ frs (envOfC qual scope s0.heap.objs.size f cd :: outer) := fun env he b hb => List.mem_filterMap.mpr ⟨env, he, hb⟩
  have U : Un (frs outer) [] H0 H s0.heap s.heap := I.base
  have nofr : ∀ b u, H b = some u → b ∉ frs (envOfC qual scope s0.heap.objs.size f cd :: outer) := fun b u e z => by
    have := I.stkFree b z
    rw [this] at e
    cases e
  have inB : ∀ b o, s.heap.get? b = some o → b ∉ frs (envOfC qual scope s0.heap.objs.size f cd :: outer) → (PySem.W.hideAll s.heap (frs (envOfC qual scope s0.heap.objs.size f cd :: outer))).get? b = some o := fun b o e n => PySem.W.hideAll_get _ e n
  show wpAny _ _ (leaving _ _) _ _ _
  refine fly_made (base := PySem.W.hideAll s.heap (frs (envOfC qual scope s0.heap.objs.size f cd :: outer))) I.ok.frames rfl (fun b o e => PySem.W.of_hideAll _ e) (PySem.W.funFrames_hide stk hin) m fun h2 t x1 x4 => ?_
  have kept := x1.stay
  have fr : ∀ b o, s.heap.get? b = some o → b ∈ frs outer → ∃ sl, h2.get? b = some { o with slots := sl } := fun b o e hb => by
    obtain ⟨_, o', ho', nf⟩ := stk.mem (b := b) (List.mem_cons_of_mem _ hb)
    rw [e] at ho'
    cases ho'
    exact x4 b o (m.keeps _ _ e) nf
  refine ⟨ea, C, t, _, H, rfl, I.os, I.bare, ⟨fun b o e n hb hx => ?_, fun b o e n hb hx => ?_, U.free, fun b o e hx => ?_, U.tups, U.frzs, U.tbls⟩, fun b u e => ?_, x1, ⟨fun b o e hb => ?_, fun b u e => ?_⟩, q⟩
  · exact kept b o (inB b o (U.keep b o e n hb hx) (young e hb))
  · obtain ⟨sl, e1⟩ := U.slot b o e n hb hx
    obtain ⟨sl', e2⟩ := fr b _ e1 hb
    exact ⟨sl', e2⟩
  · obtain ⟨o1, e1⟩ := U.there b o e hx
    by_cases hb : b ∈ frs outer
    · obtain ⟨sl, e2⟩ := fr b _ e1 hb
      exact ⟨_, e2⟩
    · exact ⟨o1, kept b o1 (inB b o1 e1 (young e hb))⟩
  · refine (I.hok b u e).stay (fun c o hc e1 => kept c o (inB c o e1 ?_)) (fun _ r => r) fun _ _ r => r
    rcases hc with rfl | hc
    · exact nofr _ _ e
    · exact nofr _ _ hc
  · obtain ⟨o1, e1⟩ := U.there b o e (by simp)
    refine ⟨o1, inB b o1 e1 (young e hb), fun n => ?_⟩
    have := U.keep b o e n hb (by simp)
    rw [e1] at this
    exact Option.some.inj this
  · obtain ⟨o, e1⟩ := (I.hok b u e).ex
    exact ⟨o, inB b o e1 (nofr b u e)⟩
/-- an exception of a callee leaves this frame, too -/
theorem passC : Passes (CXC P w) (XC P w K mg base N qual scope f cd A outer s0 H0 E) E := by
  intro pins σ H s e s' I h
  obtain ⟨ea, C, t, B, H', rfl, os, bare, un, hok, fl, cov, q⟩ := h
  have U : Un (frs outer) [] H0 H s0.heap s.heap := I.base
  show wpAny _ _ (leaving _ _) _ _ _
  refine fly_leaves (base := B) I.ok.frames rfl fl fun h2 x1 x2 => ?_
  have kept := x1.stay
  have fr : ∀ b o, s'.heap.get? b = some o → b ∈ frs outer → ∃ sl, h2.get? b = some { o with slots := sl } := fun b o e hb => by
    obtain ⟨_, o', ho', nf⟩ := fl.fun_.mem (b := b) (List.mem_cons_of_mem _ hb)
    rw [e] at ho'
    cases ho'
    exact x2 b o e nf
  refine ⟨ea, C, t, B, H', rfl, os.trans I.os, bare, ⟨fun b o e n hb hx => ?_, fun b o e n hb hx => ?_, fun b o e n hx => ?_, fun b o e hx => ?_, fun b xs e => un.tups b xs (U.tups b xs e), fun b o u e => un.frzs b o u (U.frzs b o u e), fun b ps e => ?_⟩, fun b u e => ?_, x1, ⟨fun b o e hb => ?_, cov.trk⟩, q⟩
  · obtain ⟨o', e2, z⟩ := cov.old b o (U.keep b o e n hb hx) (young e hb)
    rw [z (U.free b o e n hx)] at e2
    exact kept b o e2
  · obtain ⟨sl, e1⟩ := U.slot b o e n hb hx
    obtain ⟨sl', e2⟩ := un.slot b _ e1 (U.free b o e n hx) (List.mem_cons_of_mem _ hb) hx
    obtain ⟨sl2, e3⟩ := fr b _ e2 hb
    exact ⟨sl2, e3⟩
  · obtain ⟨o1, e1⟩ := U.there b o e hx
    exact un.free b o1 e1 (U.free b o e n hx) hx
  · obtain ⟨o1, e1⟩ := U.there b o e hx
    by_cases hb : b ∈ frs outer
    · obtain ⟨o2, e2⟩ := un.there b o1 e1 hx
      obtain ⟨sl, e3⟩ := fr b _ e2 hb
      exact ⟨_, e3⟩
    · obtain ⟨o', e2, _⟩ := cov.old b o1 e1 (young e hb)
      exact ⟨o', kept b o' e2⟩
  · obtain ⟨m1, e1⟩ := U.tbls b ps e
    obtain ⟨m2, e2⟩ := un.tbls b _ e1
    exact ⟨m1 ++ m2, by rw [e2, Array.append_assoc]⟩
  · refine (hok b u e).stay (fun c o hc e1 => ?_) (fun _ r => r) fun _ _ r => r
    have ht : ∃ o, B.get? c = some o := by
      rcases hc with rfl | hc
      · exact cov.trk _ _ e
      · exact cov.trk _ _ hc
    obtain ⟨o1, e2⟩ := ht
    have := fl.stay c o1 e2
    rw [e1] at this
    cases this
    exact kept c o e2
  · obtain ⟨o1, e1⟩ := U.there b o e (by simp)
    obtain ⟨o', e2, z⟩ := cov.old b o1 e1 (young e hb)
    refine ⟨o', e2, fun n => ?_⟩
    have := U.keep b o e n hb (by simp)
    rw [e1] at this
    rw [z (U.free b o e n (by simp))]
    exact Option.some.inj this
theorem passOwnC : PassesOwn (model P w) (XC P w K mg base N qual scope f cd A outer s0 H0 E).A (XC P w K mg base N qual scope f cd A outer s0 H0 E).env (XC P w K mg base N qual scope f cd A outer s0 H0 E).xe := PassesOwn.leaving
end
section
variable {P : Program} {w : World} {K : PySem.W.Frag} {mg : Str → Option Value} {base : Heap}
/-- the rule for a def that may raise -/
theorem Fun.okC {x qual : Str} {st : Stmt} {f : Addr} {fd : FuncData} {N ps : List Str} {k : Nat} {sp : Sp} (F : Fun K x qual st f fd) (S : FnScope N ps (defScope st)) (len : ∀ vs H Q E, sp vs H Q E → vs.length = ps.length)
    (hbody : ∀ (cdv : Value) (A : Around) (outer : List Env) (s : Shared) (H : Hp) (vs : List V) (Q : VK) (E : XK), Room k (A.deeper (envOfC qual (defScope st) s.heap.objs.size f cdv)) → sp vs H Q E →
      ∃ t, PSs (XC P w K mg base N qual (defScope st) f cdv A outer s H E) (defBody st) t ∧ t { nx := fun _ H' => Q .non H', rt := Q } (start N vs) H) : FnOk P w K mg base (CXC P w) (k + 1) f fd ps sp := by
  obtain ⟨oc, od, kV, doc, pm, an, cdv, ct, osl, rfl, lk, hcd⟩ := F.ex
  exact fn_of lk hcd S len fun A outer s H vs Q E hr hsp => hbody cdv A outer s H vs Q E hr hsp
end
section
variable {P : Program} {w : World} {K : PySem.W.Frag} {mg : Str → Option Value} {base : Heap} {N : List Str} {qual : Str} {scope : Scope} {f : Addr} {cd : Value} {A : Around} {outer : List Env} {s0 : Shared} {H0 : Hp} {E : XK}
theorem ps_raiseC {x : Str} {C : Addr} {a : Expr} {ta : TA} {np cpos pos : Pos} (e : Exc K mg x C) (hg : Gl (XC P w K mg base N qual scope f cd A outer s0 H0 E) x) (ha : PA (XC P w K mg base N qual scope f cd A outer s0 H0 E) [a] ta)
    (hdb : (x == ("__debug__" : Str)) = false := by decide)
    (he : starEach [a] (XC P w K mg base N qual scope f cd A outer s0 H0 E).env = [(false, eval a (XC P w K mg base N qual scope f cd A outer s0 H0 E).env)] := by rfl) :
    PS (XC P w K mg base N qual scope f cd A outer s0 H0 E) (.Raise (some (.Call (.Name x np) [a] [] cpos)) none pos) (tRaise C E ta) := by
  intro pins s σ H D I h
  obtain ⟨bm, N', nm, qn, bs, hdct, sn, sub, ab, col, dd, k0, k1, k2, k3, k5, mN, hC, hN, hni, T⟩ := exc_obj I.mod.kin e.q
  refine wpAny_Raise_call_subU (C := C) (nm := nm) (q := qn) (N := N') (bs := bs) (bm := bm) (hdct := hdct) (sn := sn) (sub := sub) (ab := ab) (col := col) (dd := dd) (k0 := k0) (k1 := k1) (k2 := k2) (k3 := k3) (k5 := k5)
    PySem.F.excBase_ValueError PySem.F.excBase_ValueError.hasB PySem.F.excBase_ValueError (mN := mN) (T.hasType PySem.F.excBase_ValueError.hasBase) (I.ok.hd rfl) (by rw [he]; rfl) hni (ld_glob I hg e.m ⟨rfl, ?_⟩ hdb)
  have h2 := ha cpos pins s σ H _ I h
  rw [he] at h2 ⊢
  refine Calls.evalArgs_plain (thn h2 fun us s2 ⟨vs, H2, I2, r2, q1, q2⟩ => ⟨rfl, ?_, I2.bk _ _ hC, hN.keeps I2.bk, T.keeps I2.bk, fun h' ea m => raisedC I2 m q2⟩)
  rw [← r2.length]
  exact q1
end
end L2
namespace L2
open PySem PySem.Spec PyProof.Rows PySem.W
/-- an exception of the class at C, without a context -/
def excN (ea C : Addr) : HO := .ext fun h => ∃ o vs, h.get? ea = some o ∧ o.cls = .ref C ∧ o.data = .fields vs ∧ vs[2]? = some Value.none
section
variable {X : Cx} {pins : List (Addr × Obj)} {σ : St} {H : Hp} {s : Shared} {ea : Addr}
/-- an exception has come to this frame; it is tracked from now on -/
theorem landedC {C t : Addr} {B : Heap} {H' : Hp} {s' : Shared} {h6 : Heap} (I : Inv X pins σ H s) (os : s'.os = s.os) (bare : AllBare s'.gens) (un : Un (frs X.stack) [] H H' s.heap s'.heap) (hok : HOk X.prog X.w H' s'.heap)
    (fl : FlyC B X.stack ea (.ref C) (.ref t) .none s'.heap) (cov : Cov B (frs X.stack) H H' s.heap) (fl6 : FlyC B X.stack ea (.ref C) (.ref t) .none h6) (up : s'.heap.UpToSlots h6) :
    H' ea = none ∧ Inv X pins σ (upd H' ea (excN ea C)) { s' with heap := h6 } := by
  have nea : H' ea = none := by
    cases q : H' ea with
    | none => rfl
    | some u =>
      obtain ⟨o, e⟩ := cov.trk ea u q
      rw [fl.new] at e
      cases e
  obtain ⟨oe, vs, _, _, _, hoe, hoc, hod, _, hon, _⟩ := fl6.tr
  have fresh : s.heap.get? ea = none := by
    cases q : s.heap.get? ea with
    | none => rfl
    | some o =>
      by_cases hb : ea ∈ frs X.stack
      · obtain ⟨_, o', ho', nf⟩ := fl6.fun_.mem hb
        rw [hoe] at ho'
        cases ho'
        exact absurd hod (nf vs)
      · obtain ⟨o', e, _⟩ := cov.old ea o q hb
        rw [fl.new] at e
        cases e
  have fr : ∀ b o, s'.heap.get? b = some o → b ∈ frs X.stack → ∃ sl, h6.get? b = some { o with slots := sl } := fun b o e hb => by
    obtain ⟨_, o', ho', nf⟩ := fl.fun_.mem hb
    rw [e] at ho'
    cases ho'
    exact up b o e nf
  have ne : ∀ b u, H' b = some u → b ≠ ea := fun b u e => ne_of_none e nea
  refine ⟨nea, I.call' (ch := []) os ⟨fun b o e n hb hx => ?_, fun b o e n hb hx => ?_, fun b o e n hx => ?_, fun b o e hx => ?_, fun b xs e => ?_, fun b o u e => ?_, fun b ps e => ?_⟩ (fun b u e => ?_) bare fun b z => absurd z (by simp)⟩
  · obtain ⟨o', e2, z⟩ := cov.old b o e hb
    rw [z n] at e2
    exact fl6.stay b o e2
  · obtain ⟨sl, e1⟩ := un.slot b o e n hb hx
    obtain ⟨sl2, e2⟩ := fr b _ e1 hb
    exact ⟨sl2, e2⟩
  · have : b ≠ ea := fun z => by rw [z, fresh] at e; cases e
    rw [upd_ne this]
    exact un.free b o e n hx
  · by_cases hb : b ∈ frs X.stack
    · obtain ⟨o1, e1⟩ := un.there b o e hx
      obtain ⟨sl, e2⟩ := fr b _ e1 hb
      exact ⟨_, e2⟩
    · obtain ⟨o', e2, _⟩ := cov.old b o e hb
      exact ⟨o', fl6.stay b o' e2⟩
  · have q := un.tups b xs e
    rw [upd_ne (ne b _ q)]
    exact q
  · have q := un.frzs b o u e
    rw [upd_ne (ne b _ q)]
    exact q
  · obtain ⟨more, q⟩ := un.tbls b ps e
    exact ⟨more, by rw [upd_ne (ne b _ q)]; exact q⟩
  · by_cases hb : b = ea
    · subst hb
      rw [upd_same] at e
      cases e
      refine ⟨⟨oe, vs, hoe, hoc, hod, hon⟩, ⟨oe, hoe⟩, fun h1 h2 p k => ?_⟩
      obtain ⟨o, ws, e1, e2, e3, e4⟩ := p
      exact ⟨o, ws, k o e1, e2, e3, e4⟩
    · rw [upd_ne hb] at e
      refine (hok b u e).stay (fun c o hc e1 => ?_) (fun c r => by rw [upd_ne (ne c _ r)]; exact r) fun c xs r => by rw [upd_ne (ne c _ r)]; exact r
      have ht : ∃ o, B.get? c = some o := by
        rcases hc with rfl | hc
        · exact cov.trk _ _ e
        · exact cov.trk _ _ hc
      obtain ⟨o1, e2⟩ := ht
      have := fl.stay c o1 e2
      rw [e1] at this
      cases this
      exact fl6.stay c o e2
end
/-- within the suite of a try: the pins lie in the context, what flies out is told -/
def Cx.trC (X : Cx) (pins : List (Addr × Obj)) (E : XK) : Cx := { X with pn := X.pn ++ pins, xe := fun e s' => ∃ σ H s, Inv X pins σ H s ∧ CXC X.prog X.w X.stack H s E e s' }
section
variable {X : Cx} {pins pins' : List (Addr × Obj)} {E : XK} {σ : St} {H : Hp} {s : Shared}
theorem Cx.Ok.trC (ok : X.Ok) : (X.trC pins E).Ok :=
  ⟨ok.mod, ok.kind, ok.glob, ok.blt, ok.above, ok.inj, ok.has, ok.cab, ok.hd, ok.frames, ok.stk, ok.exf, ok.bs, ok.bsz, ok.noex, ok.exfs, ok.funs, ok.frf⟩
theorem Cx.Ok.untrC (ok : (X.trC pins E).Ok) : X.Ok :=
  ⟨ok.mod, ok.kind, ok.glob, ok.blt, ok.above, ok.inj, ok.has, ok.cab, ok.hd, ok.frames, ok.stk, ok.exf, ok.bs, ok.bsz, ok.noex, ok.exfs, ok.funs, ok.frf⟩
theorem Inv.trC (I : Inv X pins σ H s) : Inv (X.trC pins E) [] σ H s :=
  ⟨I.ok.trC, I.os, I.bare, I.base, I.loc, I.cell, I.free, I.freeC, fun p hp => I.pin p (by
    have hp' : p ∈ (X.pn ++ pins) ++ [] := hp
    rwa [List.append_nil] at hp'), I.hok, I.len⟩
theorem Inv.untrC (I : Inv (X.trC pins E) pins' σ H s) : Inv X pins σ H s :=
  ⟨I.ok.untrC, I.os, I.bare, I.base, I.loc, I.cell, I.free, I.freeC, fun p hp => I.pin p (List.mem_append_left _ hp), I.hok, I.len⟩
theorem passTC : Passes (CXC X.prog X.w) (X.trC pins E) E := fun _ σ H s _ _ I h => ⟨σ, H, s, I.untrC, h⟩
theorem SP.untrC {D : Ends} {f : Flow} {s' : Shared} (h : SP (X.trC pins E) [] D f s') : SP X pins D f s' := by
  cases f with
  | next => obtain ⟨σ, H, I, q⟩ := h; exact ⟨σ, H, I.untrC, q⟩
  | ret v => obtain ⟨x, σ, H, I, r, q⟩ := h; exact ⟨x, σ, H, I.untrC, r, q⟩
  | brk => obtain ⟨σ, H, I, q⟩ := h; exact ⟨σ, H, I.untrC, q⟩
  | cont => obtain ⟨σ, H, I, q⟩ := h; exact ⟨σ, H, I.untrC, q⟩
end
def PHC (X : Cx) (hs : List ExceptHandler) (th : TH) : Prop := ∀ (pins : List (Addr × Obj)) (ea C t : Addr) (B : Heap) (H' : Hp) (s' : Shared) (σ : St) (D : Ends) (h5 : Heap),
  (∀ h6, FlyC B X.stack ea (.ref C) (.ref t) .none h6 → s'.heap.UpToSlots h6 → Inv X pins σ (upd H' ea (excN ea C)) { s' with heap := h6 }) →
  FlyC B X.stack ea (.ref C) (.ref t) .none h5 → s'.heap.UpToSlots h5 → H' ea = none → th C D σ H' →
  wpAny (model X.prog X.w) X.A (handleBy (.ref ea) X.env hs) (SP X pins D) X.xe { s' with heap := h5 }
theorem phc_nil {X : Cx} : PHC X [] hNil := fun _ _ _ _ _ _ _ _ _ _ _ _ _ _ z => z.elim
theorem ps_tryC {X : Cx} {body : List Stmt} {h0 : ExceptHandler} {hs : List ExceptHandler} {pos : Pos} {tb : XK → TS} {th : TH} (hst : X.stack = X.env :: X.outer) (hfr : X.env.frame = some X.env.locals)
    (hb : ∀ pins E, PSs (X.trC pins E) body (tb E)) (hh : PHC X (h0 :: hs) th) : PS X (.Try body (h0 :: hs) [] [] pos) (tTryG tb th) := by
  intro pins s σ H D I h
  refine wpAny_Try_except ?_
  refine wpAny_mono (hb pins _ [] s σ H D I.trC h) (fun fw s1 q => ?_) fun e s1 q => ?_
  · have q' := q.untrC
    cases fw with
    | next => exact wpAny_execs_nil q'
    | ret v => exact q'
    | brk => exact q'
    | cont => exact q'
  · obtain ⟨σ1, H1, s0, I1, ea, C', t', B, H', rfl, os, bare, un, hok, fl, cov, C, eC, q2⟩ := q
    cases eC
    have frm : X.A.frames = some (X.env :: X.outer) := by rw [← hst]; exact I.ok.frames
    refine fly_note (base := B) frm hfr (by rw [← hst]; exact fl) fun h4 held up4 => fly_set (s := { s1 with heap := h4 }) (f := none) held fun h5 fl5 up5 => ?_
    have fl5' : FlyC B X.stack ea (.ref C') (.ref t') .none h5 := by rw [hst]; exact fl5
    obtain ⟨nea, _⟩ := landedC I1 os bare un hok fl cov fl5' (up4.trans up5)
    exact hh pins ea C' t' B H' s1 σ1 D h5 (fun h6 fl6 up6 => (landedC I1 os bare un hok fl cov fl6 up6).2) fl5' (up4.trans up5) nea (q2 σ1 (by rw [I1.len, I.len]))
end L2

set_option Elab.async false
set_option linter.all false
set_option maxRecDepth 100000
set_option maxHeartbeats 4000000
namespace L2
open PySem PySem.Spec PyProof.Rows PySem.W
section
variable {P : Program} {w : World} {K : PySem.W.Frag} {mg : Str → Option Value} {base : Heap} {N : List Str} {qual : Str} {scope : Scope} {f : Addr} {cd : Value} {A : Around} {outer : List Env} {s0 : Shared} {H0 : Hp} {E : XK}
theorem raisedF {pins : List (Addr × Obj)} {σ : St} {H : Hp} {s : Shared} {h1 : Heap} {ea C : Addr} {t : Addr} {x2 x3 x4 x5 : Value} {hd : Option Value} (I : Inv (X1 P w K mg base N qual scope f cd A outer s0 H0 E) pins σ H s) (mk : ∀ b o, s.heap.get? b = some o → h1.get? b = some o) (mn : s.heap.get? ea = none) (me : h1.get? ea = some { cls := .ref C, data := .fields #[.ref t, .none, x2, x3, x4, x5] }) (q : E (.ref C) none H) :
    notedBy (model P w) ((X1 P w K mg base N qual scope f cd A outer s0 H0 E).A.mark hd) (X1 P w K mg base N qual scope f cd A outer s0 H0 E).env (cameBackBy (model P w) (X1 P w K mg base N qual scope f cd A outer s0 H0 E).A (X1 P w K mg base N qual scope f cd A outer s0 H0 E).env (X1 P w K mg base N qual scope f cd A outer s0 H0 E).xe) (.ref ea) { s with heap := h1 } := by
  have stk : s.heap.FunFrames base (envOfC qual scope s0.heap.objs.size f cd :: outer) := I.stack
  have hin : ∀ env ∈ (envOfC qual scope s0.heap.objs.size f cd :: outer), ∀ b, env.frame = some b → b ∈ frs (envOfC qual scope s0.heap.objs.size f cd :: outer) := fun env he b hb => List.mem_filterMap.mpr ⟨env, he, hb⟩
  have U : Un (frs outer) [] H0 H s0.heap s.heap := I.base
  have nofr : ∀ b u, H b = some u → b ∉ frs (envOfC qual scope s0.heap.objs.size f cd :: outer) := fun b u e z => by
    have := I.stkFree b z
    rw [this] at e
    cases e
  have inB : ∀ b o, s.heap.get? b = some o → b ∉ frs (envOfC qual scope s0.heap.objs.size f cd :: outer) → (PySem.W.hideAll s.heap (frs (envOfC qual scope s0.heap.objs.size f cd :: outer))).get? b = some o := fun b o e n => PySem.W.hideAll_get _ e n
  have st : (PySem.W.hideAll s.heap (frs (envOfC qual scope s0.heap.objs.size f cd :: outer))).StaysIn s.heap := fun b o e => PySem.W.of_hideAll _ e
  have nw : (PySem.W.hideAll s.heap (frs (envOfC qual scope s0.heap.objs.size f cd :: outer))).get? ea = none := by
    cases q : (PySem.W.hideAll s.heap (frs (envOfC qual scope s0.heap.objs.size f cd :: outer))).get? ea with
    | none => rfl
    | some o =>
      have z := st ea o q
      rw [mn] at z
      cases z
  refine fly_out (M := model P w) (A := A.deeper (envOfC qual scope s0.heap.objs.size f cd)) (A' := (A.deeper (envOfC qual scope s0.heap.objs.size f cd)).mark hd) (Qx := fun e _ s'' => CX1 P w outer H0 s0 E e s'') (Ex := fun _ e' s'' => CX1 P w outer H0 s0 E e' s'') (s := { s with heap := h1 }) (base := PySem.W.hideAll s.heap (frs (envOfC qual scope s0.heap.objs.size f cd :: outer))) I.ok.frames rfl (fun b o e => mk b o (st b o e)) nw ((PySem.W.funFrames_hide stk hin).of_keeps fun b o e _ => ⟨o, mk b o e, rfl⟩) me rfl rfl rfl rfl fun h2 y1 x4 => ?_
  have x1 := y1.w
  have kept := x1.1
  have fr : ∀ b o, s.heap.get? b = some o → b ∈ frs outer → ∃ sl, h2.get? b = some { o with slots := sl } := fun b o e hb => by
    obtain ⟨_, o', ho', nf⟩ := stk.mem (b := b) (List.mem_cons_of_mem _ hb)
    rw [e] at ho'
    cases ho'
    exact x4 b o (mk _ _ e) nf
  refine ⟨ea, C, t, _, H, rfl, I.os, I.bare, ⟨fun b o e n hb hx => ?_, fun b o e n hb hx => ?_, U.free, fun b o e hx => ?_, U.tups, U.frzs, U.tbls⟩, fun b u e => ?_, x1, ⟨fun b o e hb => ?_, fun b u e => ?_⟩, q⟩
  · exact kept b o (inB b o (U.keep b o e n hb hx) (young e hb))
  · obtain ⟨sl, e1⟩ := U.slot b o e n hb hx
    obtain ⟨sl', e2⟩ := fr b _ e1 hb
    exact ⟨sl', e2⟩
  · obtain ⟨o1, e1⟩ := U.there b o e hx
    by_cases hb : b ∈ frs outer
    · obtain ⟨sl, e2⟩ := fr b _ e1 hb
      exact ⟨_, e2⟩
    · exact ⟨o1, kept b o1 (inB b o1 e1 (young e hb))⟩
  · refine (I.hok b u e).stay (fun c o hc e1 => kept c o (inB c o e1 ?_)) (fun _ r => r) fun _ _ r => r
    rcases hc with rfl | hc
    · exact nofr _ _ e
    · exact nofr _ _ hc
  · obtain ⟨o1, e1⟩ := U.there b o e (by simp)
    refine ⟨o1, inB b o1 e1 (young e hb), fun n => ?_⟩
    have := U.keep b o e n hb (by simp)
    rw [e1] at this
    exact Option.some.inj this
  · obtain ⟨o, e1⟩ := (I.hok b u e).ex
    exact ⟨o, inB b o e1 (nofr b u e)⟩
/-- except Cw: raise C2(a) from None -/
def hRz (K : PySem.W.Frag) (Cw C2 : Addr) (E : XK) (ta : TA) (th : TH) : TH := fun C D σ H => ∃ b, kitOne K (.ref C) (.ref Cw) = some b ∧ if b = true then (∀ ea, H ea = none →
  ta σ (upd H ea (excN ea C)) fun vs H1 => vs.length ≤ sizeLine ∧ H1 ea = some (excN ea C) ∧ E (.ref C2) none H1) else th C D σ H
theorem phc_raise {Cw C2 : Addr} {cx x : Str} {np hpos np2 cpos cp pos : Pos} {j : Nat} {a : Expr} {ta : TA} {rest : List ExceptHandler} {th : TH}
    (ex : Exc K mg cx Cw) (exk : ExcK K Cw) (hgc : Gl (X1 P w K mg base N qual scope f cd A outer s0 H0 E) cx) (e2 : Exc K mg x C2) (hg : Gl (X1 P w K mg base N qual scope f cd A outer s0 H0 E) x)
    (ha : ∀ ea, PA ((X1 P w K mg base N qual scope f cd A outer s0 H0 E).suite ea) [a] ta) (hr : PHC (X1 P w K mg base N qual scope f cd A outer s0 H0 E) rest th)
    (hdc : (cx == ("__debug__" : Str)) = false := by decide) (hdb : (x == ("__debug__" : Str)) = false := by decide)
    (he : starEach [a] (X1 P w K mg base N qual scope f cd A outer s0 H0 E).env = [(false, eval a (X1 P w K mg base N qual scope f cd A outer s0 H0 E).env)] := by rfl) :
    PHC (X1 P w K mg base N qual scope f cd A outer s0 H0 E) (.ExceptHandler (some (.Name cx np)) none [.Raise (some (.Call (.Name x np2) [a] [] cpos)) (some (.Constant .none j cp)) pos] hpos :: rest) (hRz K Cw C2 E ta th) := by
  intro pins ea C t B H' s' σ D h5 L fl5 up5 nea q
  obtain ⟨b, hsub, q⟩ := q
  have I5 := L h5 fl5 up5
  refine wpAny_handleBy_cons (codeAny_handlers_test (ld_glob (X := (X1 P w K mg base N qual scope f cd A outer s0 H0 E).suite ea) I5.suite hgc ex.m ?_ hdc)) (by intro z; cases z)
  refine exm_ok ex exk I5 fl5.w hsub ?_
  cases b with
  | false =>
    rw [if_neg Bool.false_ne_true] at q
    exact hr pins ea C t B H' s' σ D h5 L fl5 up5 nea q
  | true =>
    rw [if_pos rfl] at q
    refine codeAny_handlers_suite ?_
    refine fly_set (s := { s' with heap := h5 }) (f := none) fl5 fun h6 fl6 up6 => ?_
    have I6 := L h6 fl6 (up5.trans up6)
    refine wpAny_execs_cons ?_
    obtain ⟨bm, N', nm, qn, bs, hdct, sn, sub, ab, col, dd, k0, k1, k2, k3, k5, mN, hC, hN, hni, T⟩ := exc_obj I6.mod.kin e2.q
    refine exec_raise_none (C := C2) (nm := nm) (q := qn) (N := N') (bs := bs) (bm := bm) (hdct := hdct) (sn := sn) (sub := sub) (ab := ab) (col := col) (dd := dd) (k0 := k0) (k1 := k1) (k2 := k2) (k3 := k3) (k5 := k5) (mN := mN) (ea := ea)
      PySem.F.excBase_ValueError PySem.F.excBase_ValueError.hasB PySem.F.excBase_ValueError (T.hasType PySem.F.excBase_ValueError.hasBase) rfl (by rw [he]; rfl) hni (ld_glob (X := (X1 P w K mg base N qual scope f cd A outer s0 H0 E).suite ea) I6.suite hg e2.m ⟨rfl, ?_⟩ hdb)
    have h2 := ha ea cpos pins _ σ _ _ I6.suite (q ea nea)
    rw [show starEach [a] ((X1 P w K mg base N qual scope f cd A outer s0 H0 E).suite ea).env = _ from he] at h2
    rw [he]
    refine Calls.evalArgs_plain (wpAny_mono h2 (fun us s2 z => ?_) fun _ _ z => False.elim z)
    obtain ⟨vs, H2, I2', r2, q1, q3, q2⟩ := z
    have I2 := I2'.unsuite I6.ok
    obtain ⟨⟨o, ws, w1, _, w3, w4⟩, _⟩ := I2.hok ea _ q3
    refine ⟨rfl, ?_, I2.bk _ _ hC, hN.keeps I2.bk, T.keeps I2.bk, ⟨o, ws, w1, w3, w4⟩, fun h1 e t m1 m2 _ _ m5 => raisedF I2 m1 m2 m5 q2⟩
    rw [← r2.length]
    exact q1
end
section
variable {P : Program} {w : World} {K : PySem.W.Frag} {mg : Str → Option Value} {base : Heap} {N : List Str} {qual : Str} {scope : Scope} {f : Addr} {cd : Value} {A : Around} {outer : List Env} {s0 : Shared} {H0 : Hp} {E : XK}
theorem passNC {X : Cx} : Passes (CXC P w) X (fun _ _ _ => False) := fun pins σ H s e s' I h => passN pins σ H s e s' I h.weak
end
end L2

set_option Elab.async false
set_option linter.all false
set_option maxRecDepth 100000
set_option maxHeartbeats 4000000
namespace L2
open PySem PySem.Spec PyProof.Rows PySem.W
/-! ### an exception that leaves a comprehension's item -/
section
variable {M : Model} {A : Around} {E : Value → Shared → Prop} {s : Shared} {base : Heap} {outer : List Env} {env : Env} {e L : Addr} {cls a0 cx fl : Value} {Q : Unit → Shared → Prop}
theorem fly_note_any (fr : A.frames = some (env :: outer)) (ef : env.frame = some L) (y : FlyX base (env :: outer) e cls a0 cx fl s.heap)
    (k : ∀ h', FlyX base (env :: outer) e cls a0 cx (rawInt L) h' → s.heap.UpToSlots h' → Q () { s with heap := h' }) : wpAny M A (noteFrame (.ref e) env) Q E s := by
  by_cases z : fl = rawInt L
  · subst z
    exact wpAny_noteFrame_againW ef y.tr.w (k _ y (.refl _))
  obtain ⟨o, vs, T, p, ts, c1, c3, c6, c9, d1, d2, g⟩ := fly_at (M := M) (A := A) (E := E) y
  unfold noteFrame
  simp only [ef]
  refine wpAny_bind (wpAny_field c1 c3 c6 ?_)
  have n1 : (Value.ref T != Value.none) = true := by simp
  rw [if_pos n1]
  refine wpAny_bind (wpAny_field c9 d1 d2 ?_)
  have n2 : ¬ ((fl == rawInt L) = true) := by simpa using z
  rw [if_neg n2]
  refine wpAny_bind (g _ _ fun h' y' up => ?_)
  obtain ⟨st, nw, fu, o, vs, T', p, ts, c1, rfl, c3, c4, c5, c6, r⟩ := y'
  exact fly_entry (s := { s with heap := h' }) fr ef st nw fu c1 c3 c4 c5 fun h2 f2 u2 => k h2 f2 (up.trans u2)
theorem fly_leaves_any (fr : A.frames = some (env :: outer)) (ef : env.frame = some L) (y : FlyX base (env :: outer) e cls a0 cx fl s.heap)
    (k : ∀ h', FlyX base outer e cls a0 cx .none h' → s.heap.UpToSlots h' → Q () { s with heap := h' }) : wpAny M A (leaving env (.ref e)) Q E s := by
  unfold leaving
  refine wpAny_bind (fly_note_any fr ef y fun h1 y1 u1 => ?_)
  exact fly_set (s := { s with heap := h1 }) (f := none) y1 fun h2 y2 u2 => k h2 y2.tail (u1.trans u2)
theorem note_env {env' : Env} {x : Value} (h : env'.frame = env.frame) : noteFrame x env' = noteFrame x env := by
  unfold noteFrame PySem.frameOf
  rw [h]
end
section
variable {P : Program} {w : World} {K : PySem.W.Frag} {mg : Str → Option Value} {base : Heap} {N : List Str} {qual : Str} {scope : Scope} {f : Addr} {cd : Value} {A : Around} {outer : List Env} {s0 : Shared} {H0 : Hp} {E : XK}
theorem xe_any {pins : List (Addr × Obj)} {σ : St} {H H' : Hp} {s s' : Shared} {ea C t : Addr} {B : Heap} {ch : List Addr} {fv : Value} (I : Inv (XC P w K mg base N qual scope f cd A outer s0 H0 E) pins σ H s) (os : s'.os = s.os) (bare : AllBare s'.gens)
    (un : Un (frs (XC P w K mg base N qual scope f cd A outer s0 H0 E).stack) ch H H' s.heap s'.heap) (hok : HOk P w H' s'.heap) (fl : FlyX B (XC P w K mg base N qual scope f cd A outer s0 H0 E).stack ea (.ref C) (.ref t) .none fv s'.heap)
    (old : ∀ b o, s.heap.get? b = some o → b ∉ frs (XC P w K mg base N qual scope f cd A outer s0 H0 E).stack → b ∉ ch → ∃ o', B.get? b = some o' ∧ (H b = none → o' = o)) (trk : ∀ b u, H' b = some u → ∃ o, B.get? b = some o)
    (hch : ∀ b ∈ ch, s0.heap.objs.size ≤ b) (q : E (.ref C) none H') : (XC P w K mg base N qual scope f cd A outer s0 H0 E).xe (.ref ea) s' := by
  have nch : ∀ {b o}, s0.heap.get? b = some o → b ∉ ch := fun {b o} e z => absurd (Heap.lt_size e) (Nat.not_lt_of_le (hch b z))
  have U : Un (frs outer) [] H0 H s0.heap s.heap := I.base
  show wpAny _ _ (leaving _ _) _ _ _
  refine fly_leaves_any (base := B) I.ok.frames rfl fl fun h2 x1 x2 => ?_
  have kept := x1.stay
  have fr : ∀ b o, s'.heap.get? b = some o → b ∈ frs outer → ∃ sl, h2.get? b = some { o with slots := sl } := fun b o e hb => by
    obtain ⟨_, o', ho', nf⟩ := fl.fun_.mem (b := b) (List.mem_cons_of_mem _ hb)
    rw [e] at ho'
    cases ho'
    exact x2 b o e nf
  refine ⟨ea, C, t, B, H', rfl, os.trans I.os, bare, ⟨fun b o e n hb hx => ?_, fun b o e n hb hx => ?_, fun b o e n hx => ?_, fun b o e hx => ?_, fun b xs e => un.tups b xs (U.tups b xs e), fun b o u e => un.frzs b o u (U.frzs b o u e), fun b ps e => ?_⟩, fun b u e => ?_, x1, ⟨fun b o e hb => ?_, trk⟩, q⟩
  · obtain ⟨o', e2, z⟩ := old b o (U.keep b o e n hb hx) (young e hb) (nch e)
    rw [z (U.free b o e n hx)] at e2
    exact kept b o e2
  · obtain ⟨sl, e1⟩ := U.slot b o e n hb hx
    obtain ⟨sl', e2⟩ := un.slot b _ e1 (U.free b o e n hx) (List.mem_cons_of_mem _ hb) (nch e)
    obtain ⟨sl2, e3⟩ := fr b _ e2 hb
    exact ⟨sl2, e3⟩
  · obtain ⟨o1, e1⟩ := U.there b o e hx
    exact un.free b o1 e1 (U.free b o e n hx) (nch e)
  · obtain ⟨o1, e1⟩ := U.there b o e hx
    by_cases hb : b ∈ frs outer
    · obtain ⟨o2, e2⟩ := un.there b o1 e1 (nch e)
      obtain ⟨sl, e3⟩ := fr b _ e2 hb
      exact ⟨_, e3⟩
    · obtain ⟨o', e2, _⟩ := old b o1 e1 (young e hb) (nch e)
      exact ⟨o', kept b o' e2⟩
  · obtain ⟨m1, e1⟩ := U.tbls b ps e
    obtain ⟨m2, e2⟩ := un.tbls b _ e1
    exact ⟨m1 ++ m2, by rw [e2, Array.append_assoc]⟩
  · refine (hok b u e).stay (fun c o hc e1 => ?_) (fun _ r => r) fun _ _ r => r
    have ht : ∃ o, B.get? c = some o := by
      rcases hc with rfl | hc
      · exact trk _ _ e
      · exact trk _ _ hc
    obtain ⟨o1, e2⟩ := ht
    have := fl.stay c o1 e2
    rw [e1] at this
    cases this
    exact kept c o e2
  · obtain ⟨o1, e1⟩ := U.there b o e (by simp)
    obtain ⟨o', e2, z⟩ := old b o1 e1 (young e hb) (nch e)
    refine ⟨o', e2, fun n => ?_⟩
    have := U.keep b o e n hb (by simp)
    rw [e1] at this
    rw [z (U.free b o e n (by simp))]
    exact Option.some.inj this
theorem ff_but {h h' base base' : Heap} (kb : ∀ b, base.get? b = none → base'.get? b = none) : ∀ {l : List Env}, h.FunFrames base l → (∀ b ∈ l.filterMap (·.frame), h'.get? b = h.get? b) → h'.FunFrames base' l
  | [], _, _ => trivial
  | env :: r, x, k => by
    obtain ⟨hk, ⟨L, o, hf, hn, ho, hd⟩, hr⟩ := x
    refine ⟨hk, ⟨L, o, hf, kb L hn, (k L (by simp [hf])).trans ho, hd⟩, ff_but kb hr fun b hb => k b ?_⟩
    rw [List.filterMap_cons, hf]
    exact List.mem_cons_of_mem _ hb
def EntryC (X : Cx) (C : Addr) (s1 : Shared) (H1 : Hp) (fp : List Addr) : Prop := ∃ pins σ, Inv X pins σ H1 s1 ∧ (∀ b ∈ fp, FpOk X pins H1 b) ∧ s1.heap.objs.size ≤ C
theorem comp_pass {use : Option (Value → Sem Unit)} {Q : Value → Shared → Prop} {acc : Value} {C : Addr} {s : Shared} {H : Hp} {fp : List Addr} {N' : List Str} {sc' : Scope} {cl : List (Str × Addr)} {XE : Value → Shared → Prop}
    (en : EntryC (XC P w K mg base N qual scope f cd A outer s0 H0 E) C s H fp)
    (hx : ∀ e s', notedBy (model P w) (XC P w K mg base N qual scope f cd A outer s0 H0 E).A (compEnvC sc' cl C (XC P w K mg base N qual scope f cd A outer s0 H0 E).env)
      (fun e s' => compPost (model P w) (XC P w K mg base N qual scope f cd A outer s0 H0 E).A (XC P w K mg base N qual scope f cd A outer s0 H0 E).xe use Q acc C (.error e) s') e s' → XE e s') :
    Passes (CXC P w) ((cxComp (XC P w K mg base N qual scope f cd A outer s0 H0 E) N' sc' cl C s H fp).wish XE) E := by
  intro pins' σ' H' s' e s'' J h
  refine hx _ _ ?_
  obtain ⟨pins, σ, I, hf, gC⟩ := en
  obtain ⟨ea, Ce, t, B, H'', rfl, os, bare, un, hok, fl, cov, q⟩ := h
  have J0 : Inv (cxComp (XC P w K mg base N qual scope f cd A outer s0 H0 E) N' sc' cl C s H fp) [] σ' H' s' := J.unwish.pins_of fun p hp => absurd (show p ∈ ([] : List (Addr × Obj)) from hp) (by simp)
  have I' := I.comped hf J0
  have HC : H' C = none := J0.free
  obtain ⟨m, hn, _⟩ := id J0.loc
  obtain ⟨oC, es, ep, hoC, hdC, rC⟩ := hn
  have hoC' : s'.heap.get? C = some oC := hoC
  have nC : ∀ b ∈ frs (XC P w K mg base N qual scope f cd A outer s0 H0 E).stack, b ≠ C := fun b hb z => by
    obtain ⟨_, o, ho, _⟩ := I.stack.mem hb
    have := Heap.lt_size ho
    rw [z] at this
    exact absurd (Nat.lt_of_lt_of_le this gC) (Nat.lt_irrefl _)
  have hB : B.get? C = some oC := by
    obtain ⟨o', e1, e2⟩ := cov.old C oC hoC' fun z => nC C z rfl
    rw [e1, e2 HC]
  have HC2 : H'' C = none := un.free C oC hoC' HC (by simp)
  unfold notedBy
  rw [note_env (env' := compEnvC sc' cl C (XC P w K mg base N qual scope f cd A outer s0 H0 E).env) (env := (XC P w K mg base N qual scope f cd A outer s0 H0 E).env) rfl]
  refine fly_note (base := B) I.ok.frames rfl fl fun h1 y1 u1 => ?_
  have h1C : h1.get? C = some oC := y1.stay C oC hB
  refine ⟨m, ⟨oC, es, ep, h1C, hdC, rC⟩, fun h2 sb cenv _ => ?_⟩
  have kb : ∀ b o, (hideAll B [C]).get? b = some o → B.get? b = some o ∧ b ≠ C := fun b o e => ⟨of_hideAll _ e, fun z => by
    rw [z, hideAll_none [C] (by simp)] at e
    cases e⟩
  have bk : ∀ b o, B.get? b = some o → b ≠ C → (hideAll B [C]).get? b = some o := fun b o e n => hideAll_get [C] e (by simpa using n)
  have ny : ∀ {b o vs}, h1.get? b = some o → o.data = .fields vs → b ≠ C := fun {b o vs} e1 e2 z => by
    rw [z, h1C] at e1
    cases e1
    rw [hdC] at e2
    cases e2
  have y2 : FlyX (hideAll B [C]) (XC P w K mg base N qual scope f cd A outer s0 H0 E).stack ea (.ref Ce) (.ref t) .none (rawInt s0.heap.objs.size) h2 := by
    obtain ⟨st, nw, fu, o, vs, T, p, ts, c1, c2, c3, c4, c5, c6, c7, c8, c9, d1, d2⟩ := y1
    have hid : ∀ b, B.get? b = none → (hideAll B [C]).get? b = none := fun b e => by
      cases z : (hideAll B [C]).get? b with
      | none => rfl
      | some o =>
        have := (kb b o z).1
        rw [e] at this
        cases this
    refine ⟨fun b o e => ?_, hid _ nw, ff_but hid fu fun b hb => sb.2 b (nC b hb), o, vs, T, p, ts, ?_, c2, c3, c4, c5, c6, hid _ c7, c8, ?_, d1, d2⟩
    · obtain ⟨e1, e2⟩ := kb b o e
      exact (sb.2 b e2).trans (st b o e1)
    · exact (sb.2 ea (ny c1 c3)).trans c1
    · exact (sb.2 T (ny c9 d1)).trans c9
  unfold PySem.passOn
  obtain ⟨o, vs, T, p, ts, c1, c2, c3, c4, c5, c6, _⟩ := id y2.tr
  refine wpAny_bind (wpAny_field c1 c3 c6 ?_)
  have n1 : ¬ ((Value.ref T == Value.none) = true) := by simp
  rw [if_neg n1]
  refine wpAny_bind (fly_set (s := { s'' with heap := h2 }) (f := cenv.frame) y2 fun h3 y3 u3 => wpAny_throw ?_)
  have fr : ∀ b o, s''.heap.get? b = some o → b ∈ frs (XC P w K mg base N qual scope f cd A outer s0 H0 E).stack → ∃ sl, h3.get? b = some { o with slots := sl } := fun b o e hb => by
    obtain ⟨_, o', ho', nf⟩ := fl.fun_.mem hb
    rw [e] at ho'
    cases ho'
    obtain ⟨sl, e1⟩ := u1 b o e nf
    obtain ⟨sl2, e2⟩ := u3 b { o with slots := sl } ((sb.2 b (nC b hb)).trans e1) nf
    exact ⟨sl2, e2⟩
  have old : ∀ b o, s'.heap.get? b = some o → b ∉ frs (XC P w K mg base N qual scope f cd A outer s0 H0 E).stack → b ∉ [C] → ∃ o', (hideAll B [C]).get? b = some o' ∧ (H' b = none → o' = o) := fun b o e hb hx => by
    obtain ⟨o', e1, e2⟩ := cov.old b o e hb
    exact ⟨o', bk b o' e1 (by simpa using hx), e2⟩
  have trk : ∀ b u, H'' b = some u → ∃ o, (hideAll B [C]).get? b = some o := fun b u e => by
    obtain ⟨o, e1⟩ := cov.trk b u e
    exact ⟨o, bk b o e1 fun z => by rw [z, HC2] at e; cases e⟩
  refine xe_any (s' := { s'' with heap := h3 }) (ch := [C]) I' os bare ⟨fun b o e n hb hx => ?_, fun b o e n hb hx => ?_, fun b o e n hx => un.free b o e n (by simp), fun b o e hx => ?_, un.tups, un.frzs, un.tbls⟩ (fun b u e => ?_) y3 old trk (fun b hb => ?_) q
  · obtain ⟨o', e1, e2⟩ := old b o e hb hx
    rw [e2 n] at e1
    exact y3.stay b o e1
  · obtain ⟨sl, e1⟩ := un.slot b o e n hb (by simp)
    obtain ⟨sl2, e2⟩ := fr b _ e1 hb
    exact ⟨sl2, e2⟩
  · by_cases hb : b ∈ frs (XC P w K mg base N qual scope f cd A outer s0 H0 E).stack
    · obtain ⟨o1, e1⟩ := un.there b o e (by simp)
      obtain ⟨sl, e2⟩ := fr b o1 e1 hb
      exact ⟨_, e2⟩
    · obtain ⟨o', e1, _⟩ := old b o e hb hx
      exact ⟨o', y3.stay b o' e1⟩
  · refine (hok b u e).stay (fun c o hc e1 => ?_) (fun _ r => r) fun _ _ r => r
    have ht : ∃ u, H'' c = some u := by
      rcases hc with rfl | hc
      · exact ⟨_, e⟩
      · exact ⟨_, hc⟩
    obtain ⟨u', e3⟩ := ht
    obtain ⟨o1, e2⟩ := trk c u' e3
    have := fl.stay c o1 (kb c o1 e2).1
    rw [e1] at this
    cases this
    exact y3.stay c o e2
  · have hb' : b = C := by simpa using hb
    rw [hb']
    exact Nat.le_trans I.sz gC
end
end L2
namespace L2
open PySem PySem.Spec PyProof.Rows PySem.W
section
variable {X : Cx} {pins : List (Addr × Obj)} {σ : St} {H : Hp} {s : Shared}
theorem comp_coreR {x : Str} {px pos : Pos} {caps : List (Str × Nat)} {scope : Scope} {cl : List (Str × Addr)} {elt iter : Expr} {ifs : List Expr} {J : It} {fp : List Addr} {it : Addr} {tn : Nat → Heap → Prop} {tt : TT} {te : TE} {Qf : Addr → Hp → Prop}
    {RR : Value → Addr → Result → Shared → Prop} {E : Value → Shared → Prop} (I : Inv X pins σ H s) (hc : X.calm = true) (K0 : CompOk X x caps scope cl) (T : Turn X.prog X.w X.K (.Name x px) J fp it tn) (st : tn 0 s.heap) (hf : ∀ b ∈ fp, FpOk X pins H b)
    (ht : ∀ C s1 H1 fp1, PTs (cxComp X (x :: caps.map (·.1)) scope cl C s1 H1 fp1) ifs tt) (he : ∀ D C s1 H1 fp1, EntryC X C s1 H1 fp1 → PE ((cxComp X (x :: caps.map (·.1)) scope cl C s1 H1 fp1).wish (notedBy (model X.prog X.w) X.A (compEnvC scope cl C X.env) fun e s' => RR (.ref D) C (.error e) s')) elt te) (rd : rdComp J (capV caps σ) tt te Qf H)
    (hRR : ∀ D C s' H' m, Inv X pins σ H' s' → s'.heap.Ns C m → FpOk X pins H' C → Qf D H' → RR (.ref D) C (.ok .next) s') :
    wpAny (model X.prog X.w) X.A (newList []) (fun acc s3 => wpAny (model X.prog X.w) X.A (newFunctionEnv scope X.env.globals cl [] X.env.qual none .none (some X.env)) (fun cenv s4 =>
      codeAny (model X.prog X.w) X.A (.compStart (.ListComp elt [⟨.Name x px, iter, ifs, 0⟩] scope pos) 0 (.ref it) acc { cenv with scope := relabel scope X.env }) (RR acc cenv.locals) s4) E s3) E s := by
  have hfs : ∀ b ∈ fp, b < s.heap.objs.size := fun b hb => by
    obtain ⟨o, e, _⟩ := T.obj _ _ st b hb
    exact Heap.lt_size e
  refine wpAny_newObj_type (wpAny_newFunctionEnv K0.nocell (by intro y hy; simp at hy) (fun h1 hn1 hb1 => ?_) K0.kind)
  dsimp only at hn1 hb1 ⊢
  obtain ⟨D, eD⟩ : ∃ D : Nat, D = s.heap.objs.size := ⟨_, rfl⟩
  obtain ⟨H2, eH2⟩ : ∃ g, g = s.heap.push { cls := .type "list", dict := none, data := .seq ([] : List Value).toArray } := ⟨_, rfl⟩
  rw [← eH2] at hn1 hb1 ⊢
  rw [← eD]
  have hC : H2.objs.size = D + 1 := by rw [eH2, Heap.size_push, eD]
  have hle : s.heap.objs.size ≤ H2.objs.size := by rw [hC, eD]; exact Nat.le_succ _
  have hDC : D ≠ H2.objs.size := by rw [hC]; exact Nat.ne_of_lt (Nat.lt_succ_self _)
  have hk : ∀ b o, s.heap.get? b = some o → h1.get? b = some o := fun b o e => by
    refine hb1.extBut b o (Nat.ne_of_lt (Nat.lt_of_lt_of_le (Heap.lt_size e) hle)) (Heap.get?_push_of_some _ ?_)
    rw [eH2]
    exact Heap.get?_push_of_some _ e
  have hL : h1.get? D = some { cls := .type "list", data := .seq #[] } := by
    refine hb1.extBut D _ (by omega) (Heap.get?_push_of_some _ ?_)
    rw [eH2, eD]
    exact Heap.get?_push_size _ rfl
  have st1 : tn 0 h1 := T.keep _ _ _ st fun b _ o e => hk b o e
  obtain ⟨W, ⟨m0, w0⟩, turn⟩ := rd D (I.hok.fresh (by omega))
  have loop : codeAny (model X.prog X.w) X.A (.compLoop (.ListComp elt [⟨.Name x px, iter, ifs, 0⟩] scope pos) 0 (.ref it) (.ref D) (compEnvC scope cl H2.objs.size X.env)) (RR (.ref D) H2.objs.size) { s with heap := h1, toks := s.toks + ([] : List (Str × Value)).length } := by
    refine codeAny_compLoop_tests (fun n s' => ∃ i ys sl H', Inv (cxComp X (x :: caps.map (·.1)) scope cl H2.objs.size s H fp) [] (sl :: capV caps σ) H' s' ∧ tn i s'.heap ∧ (∀ b ∈ fp, H' b = none) ∧ W i n ys H') ?_ m0
      ⟨0, [], none, _, I.comp K0 hf hfs (by omega) (by omega) hDC hk hn1 hL, st1, fun b hb => ?_, w0⟩
    · rintro n s3 ⟨i, ys, sl, H3, I3, st3, fr3, w3⟩
      have fpc : ∀ {H' : Hp} {pi : List (Addr × Obj)}, (∀ b ∈ fp, H' b = none) → (∀ p ∈ pi, p.1 ∉ fp) → ∀ b ∈ fp, FpOk (cxComp X (x :: caps.map (·.1)) scope cl H2.objs.size s H fp) pi H' b := fun {H' pi} hn hp b hb => by
        obtain ⟨f0, f1, f2, f3, f4, f5⟩ := hf b hb
        refine ⟨hn b hb, ?_, fun z => ?_, .inl hb, fun y c e => f4 y c (K0.cls y c e), fun p hpp z => ?_⟩
        · exact Nat.ne_of_lt (Nat.lt_of_lt_of_le (hfs b hb) hle)
        · rcases List.mem_cons.mp (I.stkSub b z) with q | q
          · exact f1 q
          · exact f2 q
        · exact hp p (by simpa [cxComp] using hpp) (by rw [z]; exact hb)
      have clear : ∀ {α : Type} {t : Sem α} {Q : α → Shared → Prop} {E' : Value → Shared → Prop} {s : Shared}, wpAny (model X.prog X.w) X.A t Q (fun _ _ => False) s → wpAny (model X.prog X.w) X.A t Q E' s := fun h => wpAny_mono h (fun _ _ z => z) fun _ _ z => z.elim
      rcases turn i n ys H3 w3 with ⟨stop, qf⟩ | ⟨go, step⟩
      · refine thn (T.done (cxComp X (x :: caps.map (·.1)) scope cl H2.objs.size s H fp) rfl rfl rfl hc i [] s3 _ H3 _ I3 (fpc fr3 (by simp)) st3 stop) fun r s4 ⟨hr, I4⟩ => ?_
        subst hr
        obtain ⟨m4, hn4, _⟩ := id I4.loc
        refine hRR D _ s4 H3 m4 (I.comped hf I4) hn4 ?_ qf
        have gC : s.heap.objs.size ≤ H2.objs.size := by omega
        exact I.fpOk gC I4.free
      · refine clear (thn (T.item (cxComp X (x :: caps.map (·.1)) scope cl H2.objs.size s H fp) rfl rfl rfl hc i [] s3 _ H3 (fun _ _ => False) I3 (fpc fr3 (by simp)) st3 go) fun r s4 ⟨u, hr, h4⟩ => ?_)
        subst hr
        refine clear (show wpAny (model X.prog X.w) X.A (pure () >>= fun _ => assign (.Name x px) (compEnvC scope cl H2.objs.size X.env) u) _ _ s4 from wpAny_bind (thn (h4 : wpAny (model X.prog X.w) X.A (pure ()) _ _ s4) fun _ s5 ⟨v, H5, I5, r5, y5, st5, fr5⟩ => ?_))
        have I5' := I5.pinned (fpc fr5 (by simp)) (T.obj _ _ st5)
        have hg : PG (cxComp X (x :: caps.map (·.1)) scope cl H2.objs.size s H fp) (.Name x px) (gName 0) := pg_name (i := 0) K0.nd rfl (Or.inl (lookup_relabel_local K0.hx)) (Or.inr (lookup_relabel_local K0.hx))
        refine thn (hg _ s5 (sl :: capV caps σ) H5 v u (fun σ2 H2 => σ2 = some v :: capV caps σ ∧ H2 = H5) I5' r5 (show _ ∧ _ from ⟨rfl, rfl⟩)) fun _ s6 ⟨σ6, H6, I6, e6, e7⟩ => ?_
        subst e6 e7
        have q6 := step v _ y5
        have again : ∀ {H7 : Hp} {s7 : Shared} {sl : Option V} {zs : List V} {m' : Nat}, Inv (cxComp X (x :: caps.map (·.1)) scope cl H2.objs.size s H fp) ([] ++ pinsAt fp s5.heap) (sl :: capV caps σ) H7 s7 → m' < n → W (i + 1) m' zs H7 →
            ∃ m, m < n ∧ ∃ i ys sl H', Inv (cxComp X (x :: caps.map (·.1)) scope cl H2.objs.size s H fp) [] (sl :: capV caps σ) H' s7 ∧ tn i s7.heap ∧ (∀ b ∈ fp, H' b = none) ∧ W i m ys H' := fun {H7 s7 sl zs m'} I7 hm w7 => by
          refine ⟨m', hm, i + 1, zs, sl, H7, I7.unpinned, T.keep _ _ _ st5 fun b hb o e => (I7.pin (b, o) (List.mem_append_right _ (List.mem_append_right _ (mem_pinsAt hb e)))).1, fun b hb => ?_, w7⟩
          obtain ⟨o, e, d⟩ := T.obj _ _ st5 b hb
          exact (I7.pin (b, o) (List.mem_append_right _ (List.mem_append_right _ (mem_pinsAt hb e)))).2.1
        refine clear (thn (ht H2.objs.size s H fp _ s6 _ H6 _ I6 q6) fun ok s7 ⟨H7, I7, q7⟩ => ?_)
        cases ok with
        | false =>
          obtain ⟨m', hm, w7⟩ := (show ∃ m', m' < n ∧ W (i + 1) m' ys H7 from q7)
          exact again I7 hm w7
        | true =>
          refine thn (he D H2.objs.size s H fp ⟨pins, σ, I, hf, hle⟩ _ s7 _ H7 _ (I7.wish _) q7) fun xv s8 ⟨y, H8, I8', r8, hD8, hz8, m', hm, w8⟩ => ?_
          have I8 := I8'.unwish
          refine clear (thn (mt_append _ s8 _ H8 (.ref D) [y] (.ref D) [xv] (fun _ H9 => H9 = upd H8 D (.lst (ys ++ [y]))) I8 rfl (.cons r8 .nil) ⟨D, ys, y, rfl, rfl, hD8, hz8, rfl⟩) fun _ s9 ⟨_, H9, I9, _, e9⟩ => ?_)
          subst e9
          exact again I9 hm w8
    · rw [upd_ne (by rw [eD]; exact Nat.ne_of_lt (hfs b hb))]
      exact (hf b hb).1
  exact codeAny_compStart_list loop (T.self _ 0 _ _ _ st1 loop)

/-- a comprehension as a value -/
theorem pe_compR {x : Str} {px pos : Pos} {caps : List (Str × Nat)} {scope : Scope} {cl : List (Str × Addr)} {elt iter : Expr} {ifs : List Expr} {wi : TI} {tt : TT} {te : TE} (hc : X.calm = true) (K0 : CompOk X x caps scope cl) (hi : PI X (.Name x px) iter wi)
    (ht : ∀ C s1 H1 fp1, PTs (cxComp X (x :: caps.map (·.1)) scope cl C s1 H1 fp1) ifs tt) (he : ∀ (use : Option (Value → Sem Unit)) (Q : Value → Shared → Prop) (acc : Value) C s1 H1 fp1, EntryC X C s1 H1 fp1 → PE ((cxComp X (x :: caps.map (·.1)) scope cl C s1 H1 fp1).wish (notedBy (model X.prog X.w) X.A (compEnvC scope cl C X.env) fun e s' => compPost (model X.prog X.w) X.A X.xe use Q acc C (.error e) s')) elt te) (hs : ∀ x, foldedSetIterable iter X.env x = pure x := by intro _; rfl) :
    PE X (.ListComp elt [⟨.Name x px, iter, ifs, 0⟩] scope pos) (tComp wi caps tt te) := by
  intro pins s σ H Q I h
  rw [eval_ListComp]
  refine wpAny_comprehension_free (use := none) rfl hs K0.clos K0.kind K0.names (thn (hi pins s σ H _ I h) fun v s1 h1 => thn h1 fun itv s2 h2 => ?_)
  obtain ⟨it, fp, tn, J, H2, e, I2, T, st2, f2, rd⟩ := h2
  subst e
  refine comp_coreR (RR := fun acc C => compPost (model X.prog X.w) X.A X.xe none (EP X pins σ Q) acc C) I2 hc K0 T st2 f2 ht (fun D C s1 H1 fp1 en => he _ _ _ C s1 H1 fp1 en) rd ?_
  intro D C s' H' m I' hn fC q
  exact ⟨m, hn, fun h'' hs'' => ⟨.ref D, H', I'.turned (h' := h'') (t' := s'.toks) (fun b o hb e => hs''.extBut b o hb e) fC.1 fC.2.1 fC.2.2.2.1 fC.2.2.2.2.1 fC.2.2.2.2.2, rfl, q⟩⟩
end
end L2

set_option Elab.async false
set_option linter.all false
set_option maxRecDepth 100000
set_option maxHeartbeats 4000000
namespace Tw
open PySem L2
/-! ### expressions that make lists of whole numbers, or a whole number, with new objects only -/
def ML (H0 : Hp) (σ : St) (t : TE) (ms : List Int) : Prop := ∀ (H : Hp) (Q : VK), Same H0 H → (∀ r H', H r = none → Same H H' → H' r = some (.lst (ms.map V.int)) → Q (.ref r) H') → t σ H Q
def MI (H0 : Hp) (σ : St) (t : TE) (i : Int) : Prop := ∀ (H : Hp) (Q : VK), Same H0 H → (∀ H', Same H H' → Q (.int i) H') → t σ H Q
def MA (H0 : Hp) (σ : St) (t : TA) (ms : List Int) : Prop := ∀ (H : Hp) (Q : List V → Hp → Prop), Same H0 H → (∀ H', Same H H' → Q (ms.map V.int) H') → t σ H Q
def MO (H0 : Hp) (σ : St) (t : TO) (o : Option Int) : Prop := ∀ (H : Hp) (Q : Option Int → Hp → Prop), Same H0 H → (∀ H', Same H H' → Q o H') → t σ H Q
/-- a list that stands there -/
def MV (H0 : Hp) (σ : St) (t : TE) (ms : List Int) : Prop := ∀ (H : Hp) (Q : VK), Same H0 H → (∀ r H', Same H H' → H' r = some (.lst (ms.map V.int)) → Q (.ref r) H') → t σ H Q
variable {H0 : Hp} {σ : St} {K : PySem.W.Frag}
theorem ML.v {t : TE} {ms : List Int} (h : ML H0 σ t ms) : MV H0 σ t ms := fun H Q s q => h H Q s fun r H' _ s' x => q r H' s' x
theorem mv_var {i : Nat} {p : Addr} {ms : List Int} (e : σ[i]? = some (some (.ref p))) (hp : H0 p = some (.lst (ms.map V.int))) : MV H0 σ (tVar i) ms := fun H _ s q => ⟨_, e, q p H (.refl _) (s _ _ hp)⟩
theorem mi_var {i : Nat} {z : Int} (e : σ[i]? = some (some (.int z))) : MI H0 σ (tVar i) z := fun H _ _ q => ⟨_, e, q H (.refl _)⟩
theorem mi_c {z : Int} : MI H0 σ (tC (.int z)) z := fun H _ _ q => q H (.refl _)
theorem mi_op0 {t u : TE} {g : Int → Int → Int} {i j : Int} (h1 : MI H0 σ t i) (h2 : MI H0 σ u j) : MI H0 σ (tOp (rI0 fun i j => .int (g i j)) t u) (g i j) := fun H _ s q =>
  h1 H _ s fun H1 s1 => h2 H1 _ (s.trans s1) fun H2 s2 => ⟨_, _, rfl, rfl, q H2 (s1.trans s2)⟩
theorem mi_op {t u : TE} {C : Int → Int → Prop} {g : Int → Int → Int} {i j : Int} (h1 : MI H0 σ t i) (h2 : MI H0 σ u j) (hc : C i j) : MI H0 σ (tOp (rI C fun i j => .int (g i j)) t u) (g i j) := fun H _ s q =>
  h1 H _ s fun H1 s1 => h2 H1 _ (s.trans s1) fun H2 s2 => ⟨_, _, rfl, rfl, hc, q H2 (s1.trans s2)⟩
theorem ma_nil : MA H0 σ tNil [] := fun H _ _ q => q H (.refl _)
theorem ma_cons {t : TE} {ta : TA} {i : Int} {ms : List Int} (h1 : MI H0 σ t i) (h2 : MA H0 σ ta ms) : MA H0 σ (tCons t ta) (i :: ms) := fun H _ s q =>
  h1 H _ s fun H1 s1 => h2 H1 _ (s.trans s1) fun H2 s2 => q H2 (s1.trans s2)
theorem ml_lst {ta : TA} {ms : List Int} (h : MA H0 σ ta ms) (hl : ms.length ≤ 500000) : ML H0 σ (tLst ta) ms := fun H _ s q =>
  h H _ s fun H1 s1 => ⟨by rw [List.length_map, sizeLine_eq]; omega, fun p hp => q p _ (s1.free hp) (s1.trans (same_new hp _)) upd_same⟩
theorem ml_cat {t u : TE} {xs ys : List Int} (h1 : MV H0 σ t xs) (h2 : MV H0 σ u ys) (hl : xs.length + ys.length ≤ 500000) : ML H0 σ (tOp rCat t u) (xs ++ ys) := fun H _ s q =>
  h1 H _ s fun r1 H1 s1 x1 => h2 H1 _ (s.trans s1) fun r2 H2 s2 x2 => ⟨r1, r2, _, _, rfl, rfl, s2 _ _ x1, x2, by rw [List.length_map, List.length_map, sizeLine_eq]; omega, fun p hp => q p _ ((s1.trans s2).free hp) ((s1.trans s2).trans (same_new hp _)) (by rw [upd_same, List.map_append])⟩
theorem mo_no : MO H0 σ tNoPart none := fun H _ _ q => q H (.refl _)
theorem mo_part {t : TE} {i : Int} (h : MI H0 σ t i) : MO H0 σ (tPart t) (some i) := fun H _ s q => h H _ s fun H1 s1 => ⟨_, rfl, q H1 s1⟩
theorem ml_sl {t : TE} {tl th : TO} {ns ms : List Int} {lo hi : Option Int} (h : MV H0 σ t ns) (h1 : MO H0 σ tl lo) (h2 : MO H0 σ th hi) (e : cutV (ns.map V.int) lo hi = ms.map V.int) : ML H0 σ (tSl (rSlL K) t tl th) ms := fun H _ s q =>
  h H _ s fun r H1 s1 x1 => h1 H1 _ (s.trans s1) fun H2 s2 => h2 H2 _ (s.trans (s1.trans s2)) fun H3 s3 => ⟨r, _, rfl, SqL.of ((s2.trans s3) _ _ x1), fun p hp => q p _ ((s1.trans (s2.trans s3)).free hp) ((s1.trans (s2.trans s3)).trans (same_new hp _)) (by rw [upd_same, e])⟩
theorem ml_to {t u : TE} {ns : List Int} {i : Int} {j : Nat} (h : MV H0 σ t ns) (h1 : MI H0 σ u i) (e : i = (j : Int)) : ML H0 σ (tSl (rSlL K) t tNoPart (tPart u)) (ns.take j) := ml_sl h mo_no (mo_part h1) (by rw [e, cut_to])
theorem ml_from {t u : TE} {ns : List Int} {i : Int} {j : Nat} (h : MV H0 σ t ns) (h1 : MI H0 σ u i) (e : i = (j : Int)) : ML H0 σ (tSl (rSlL K) t (tPart u) tNoPart) (ns.drop j) := ml_sl h (mo_part h1) mo_no (by rw [e, cut_from])
theorem ml_mid {t u v : TE} {ns : List Int} {i i2 : Int} {j k : Nat} (h : MV H0 σ t ns) (h1 : MI H0 σ u i) (h2 : MI H0 σ v i2) (e : i = (j : Int)) (e2 : i2 = (k : Int)) : ML H0 σ (tSl (rSlL K) t (tPart u) (tPart v)) ((ns.drop j).take (k - j)) := ml_sl h (mo_part h1) (mo_part h2) (by rw [e, e2, cut_nat])
theorem mi_ixL {t u : TE} {ns : List Int} {i z : Int} {j : Nat} (h : MV H0 σ t ns) (h1 : MI H0 σ u i) (e : i = (j : Int)) (hz : ns[j]? = some z) : MI H0 σ (tOp (rIxL K) t u) z := fun H _ s q =>
  h H _ s fun r H1 s1 x1 => h1 H1 _ (s.trans s1) fun H2 s2 => ⟨r, _, _, _, rfl, rfl, SqL.of (s2 _ _ x1), by rw [e]; exact atI_nat (by rw [List.getElem?_map, hz]; rfl), q H2 (s1.trans s2)⟩
theorem ml_rep {t u : TE} {ns : List Int} {i : Int} {j : Nat} (h : MV H0 σ t ns) (h1 : MI H0 σ u i) (e : i = (j : Int)) (hl : ns.length * j ≤ 500000) (hj : j ≤ 500000) : ML H0 σ (tOp rRep t u) (List.replicate j ns).flatten := fun H _ s q =>
  h H _ s fun r H1 s1 x1 => h1 H1 _ (s.trans s1) fun H2 s2 => ⟨r, _, _, rfl, rfl, s2 _ _ x1, by omega, by omega, by rw [e, Int.toNat_natCast, List.length_map, sizeLine_eq]; omega, fun p hp => q p _ ((s1.trans s2).free hp) ((s1.trans s2).trans (same_new hp _)) (by rw [upd_same, e, Int.toNat_natCast, List.map_flatten, List.map_replicate])⟩
theorem ml_rev {t : TE} {ns : List Int} (h : MV H0 σ t ns) {tk : TE} (hk : MI H0 σ tk (-1)) : ML H0 σ (tRev3 K t tk) ns.reverse := fun H _ s q =>
  h H _ s fun r H1 s1 x1 => hk H1 _ (s.trans s1) fun H2 s2 => ⟨rfl, r, _, rfl, SqL.of (s2 _ _ x1), fun p hp => q p _ ((s1.trans s2).free hp) ((s1.trans s2).trans (same_new hp _)) (by rw [upd_same, List.map_reverse])⟩
theorem mi_neg {t : TE} {i : Int} (h : MI H0 σ t i) : MI H0 σ (tUn (rU fun i => .int (-i)) t) (-i) := fun H _ s q => h H _ s fun H1 s1 => ⟨_, rfl, q H1 s1⟩
theorem MI.to {t : TE} {i j : Int} (h : MI H0 σ t i) (e : i = j) : MI H0 σ t j := e ▸ h
theorem mi_len {t : TE} {ns : List Int} (h : MV H0 σ t ns) : MI H0 σ (tCB (fun xs H Q => ∃ p ys, xs = [V.ref p] ∧ (SqL K H p ys ∨ SqT K H p ys) ∧ Q (.int (ys.length : Int)) H) (tCons t tNil)) (ns.length : Int) := fun H _ s q =>
  h H _ s fun r H1 s1 x1 => ⟨r, _, rfl, .inl (SqL.of x1), by rw [List.length_map]; exact q H1 s1⟩
theorem mi_set {t : TE} {i : Nat} {z : Int} {D : Ends} {H : Hp} (h : MI H σ t z) (q : ∀ H', Same H H' → D.nx (σ.set i (some (.int z))) H') : tAsg t (gName i) D σ H := h H _ (.refl _) q
theorem ml_set {t : TE} {i : Nat} {ms : List Int} {D : Ends} {H : Hp} (h : ML H σ t ms) (q : ∀ r H', H r = none → Same H H' → H' r = some (.lst (ms.map V.int)) → D.nx (σ.set i (some (.ref r))) H') : tAsg t (gName i) D σ H := h H _ (.refl _) q
theorem ml_ret {t : TE} {ms : List Int} {D : Ends} {H : Hp} (h : ML H σ t ms) (q : ∀ r H', H r = none → Same H H' → H' r = some (.lst (ms.map V.int)) → D.rt (.ref r) H') : tRet t D σ H := h H _ (.refl _) q
/-- tests that change nothing -/
def PT (σ : St) (H : Hp) (t : TT) (F : Bool → Prop) : Prop := ∀ Q : Bool → Hp → Prop, (∀ b, F b → Q b H) → t σ H Q
theorem PT.and {H : Hp} {t u : TT} {F G : Bool → Prop} (h1 : PT σ H t F) (h2 : PT σ H u G) : PT σ H (tAnd t u) (fun b => b = true → F true ∧ G true) := fun Q q => h1 _ fun b hb => by
  cases b
  · exact iteF (q false fun z => absurd z (by decide))
  · exact iteT (h2 _ fun c hc => q c fun z => ⟨hb, by rw [← z]; exact hc⟩)
theorem PT.arm {H : Hp} {t : TT} {F : Bool → Prop} {A B : TS} {D : Ends} (h : PT σ H t F) (h1 : F true → A D σ H) (h2 : F false → B D σ H) : tIfS t A B D σ H := h _ fun b hb => by
  cases b
  · exact iteF (h2 hb)
  · exact iteT (h1 hb)
/-- tests that only add to the heap -/
def PU (H0 : Hp) (σ : St) (t : TT) (F : Bool → Prop) : Prop := ∀ (H : Hp) (Q : Bool → Hp → Prop), Same H0 H → (∀ b H', Same H H' → F b → Q b H') → t σ H Q
theorem PU.and {t u : TT} {F G : Bool → Prop} (h1 : PU H0 σ t F) (h2 : PU H0 σ u G) : PU H0 σ (tAnd t u) (fun b => b = true → F true ∧ G true) := fun H Q s q => h1 H _ s fun b H1 s1 hb => by
  cases b
  · exact iteF (q false H1 s1 fun z => absurd z (by decide))
  · exact iteT (h2 H1 _ (s.trans s1) fun c H2 s2 hc => q c H2 (s1.trans s2) fun z => ⟨hb, by rw [← z]; exact hc⟩)
theorem PU.arm {H : Hp} {t : TT} {F : Bool → Prop} {A B : TS} {D : Ends} (h : PU H σ t F) (h1 : ∀ H', Same H H' → F true → A D σ H') (h2 : ∀ H', Same H H' → F false → B D σ H') : tIfS t A B D σ H := h H _ (.refl _) fun b H1 s1 hb => by
  cases b
  · exact iteF (h2 H1 s1 hb)
  · exact iteT (h1 H1 s1 hb)
theorem pu_op {g : Int → Int → Bool} {t u : TE} {i j : Int} (h1 : MI H0 σ t i) (h2 : MI H0 σ u j) : PU H0 σ (tTest (tOp (rI0 fun i j => .bl (g i j)) t u)) (fun b => g i j = b) := fun H _ s q =>
  h1 H _ s fun H1 s1 => h2 H1 _ (s.trans s1) fun H2 s2 => ⟨_, _, rfl, rfl, _, rfl, q _ H2 (s1.trans s2) rfl⟩
theorem pu_eq {t u : TE} {i j : Int} (h1 : MI H0 σ t i) (h2 : MI H0 σ u j) : PU H0 σ (tTest (tOp rEq t u)) (fun b => decide (i = j) = b) := fun H _ s q =>
  h1 H _ s fun H1 s1 => h2 H1 _ (s.trans s1) fun H2 s2 => ⟨rfl, _, rfl, q _ H2 (s1.trans s2) (dec_int ..).symm⟩
theorem cut_any (ns : List Int) (lo hi : Option Int) : ∃ ms : List Int, cutV (ns.map V.int) lo hi = ms.map V.int ∧ ms.length ≤ ns.length := by
  have e : ∀ a b : Nat, ((ns.map V.int).drop a).take b = ((ns.drop a).take b).map V.int := fun a b => by rw [List.map_take, List.map_drop]
  exact ⟨_, e _ _, by rw [List.length_take, List.length_drop]; omega⟩
end Tw

set_option Elab.async false
set_option maxRecDepth 100000
set_option maxHeartbeats 4000000
namespace Tw
open PySem L2
def top (i : Nat) : Stmt := PySem.Challenge.pw_thinwood_k85_rows_read.main.body.getD i (.Pass ⟨0, 0, 0, 0⟩)
abbrev s_packed : Stmt := top 14
theorem sc_packed : FnScope ["bits"] ["bits"] (defScope s_packed) := ⟨rfl, rfl, rfl, by decide +kernel, rfl, by decide +kernel, by decide +kernel⟩
abbrev s_check_row : Stmt := top 15
theorem sc_check_row : FnScope ["bits", "bit"] ["bits"] (defScope s_check_row) := ⟨rfl, rfl, rfl, by decide +kernel, rfl, by decide +kernel, by decide +kernel⟩
abbrev s_block_of : Stmt := top 16
theorem sc_block_of : FnScope ["bits", "block", "bit"] ["bits"] (defScope s_block_of) := ⟨rfl, rfl, rfl, by decide +kernel, rfl, by decide +kernel, by decide +kernel⟩
abbrev s_unpacked : Stmt := top 17
theorem sc_unpacked : FnScope ["blocks", "many", "bits", "block"] ["blocks", "many"] (defScope s_unpacked) := ⟨rfl, rfl, rfl, by decide +kernel, rfl, by decide +kernel, by decide +kernel⟩
abbrev s_bit_in : Stmt := top 18
theorem sc_bit_in : FnScope ["block", "k"] ["block", "k"] (defScope s_bit_in) := ⟨rfl, rfl, rfl, by decide +kernel, rfl, by decide +kernel, by decide +kernel⟩
abbrev s_bits_of : Stmt := top 19
theorem sc_bits_of : FnScope ["block", "upto"] ["block", "upto"] (defScope s_bits_of) := ⟨rfl, rfl, rfl, by decide +kernel, rfl, by decide +kernel, by decide +kernel⟩
abbrev s_ones_in : Stmt := top 20
theorem sc_ones_in : FnScope ["block", "upto"] ["block", "upto"] (defScope s_ones_in) := ⟨rfl, rfl, rfl, by decide +kernel, rfl, by decide +kernel, by decide +kernel⟩
abbrev s_octets_of : Stmt := top 22
theorem sc_octets_of : FnScope ["number", "many", "octets", "rest", "k"] ["number", "many"] (defScope s_octets_of) := ⟨rfl, rfl, rfl, by decide +kernel, rfl, by decide +kernel, by decide +kernel⟩
abbrev s_number_of : Stmt := top 23
theorem sc_number_of : FnScope ["octets", "number", "octet"] ["octets"] (defScope s_number_of) := ⟨rfl, rfl, rfl, by decide +kernel, rfl, by decide +kernel, by decide +kernel⟩
abbrev s_kept_row : Stmt := top 25
theorem sc_kept_row : FnScope ["bits", "blocks"] ["bits"] (defScope s_kept_row) := ⟨rfl, rfl, rfl, by decide +kernel, rfl, by decide +kernel, by decide +kernel⟩
abbrev s_ahead_of : Stmt := top 26
theorem sc_ahead_of : FnScope ["blocks", "ahead", "block"] ["blocks"] (defScope s_ahead_of) := ⟨rfl, rfl, rfl, by decide +kernel, rfl, by decide +kernel, by decide +kernel⟩
abbrev s_numbers_octets : Stmt := top 31
theorem sc_numbers_octets : FnScope ["numbers", "size", "octets", "number"] ["numbers", "size"] (defScope s_numbers_octets) := ⟨rfl, rfl, rfl, by decide +kernel, rfl, by decide +kernel, by decide +kernel⟩
abbrev s_bits_octets : Stmt := top 32
theorem sc_bits_octets : FnScope ["blocks", "ahead"] ["blocks", "ahead"] (defScope s_bits_octets) := ⟨rfl, rfl, rfl, by decide +kernel, rfl, by decide +kernel, by decide +kernel⟩
abbrev s_row_octets : Stmt := top 33
theorem sc_row_octets : FnScope ["bits", "kept"] ["bits"] (defScope s_row_octets) := ⟨rfl, rfl, rfl, by decide +kernel, rfl, by decide +kernel, by decide +kernel⟩
abbrev s_read_row : Stmt := top 34
theorem sc_read_row : FnScope ["octets"] ["octets"] (defScope s_read_row) := ⟨rfl, rfl, rfl, by decide +kernel, rfl, by decide +kernel, by decide +kernel⟩
abbrev s_read_as : Stmt := top 35
theorem sc_read_as : FnScope ["octets", "tell", "write", "told", "again"] ["octets", "tell", "write"] (defScope s_read_as) := ⟨rfl, rfl, rfl, by decide +kernel, rfl, by decide +kernel, by decide +kernel⟩
abbrev s_check_octets : Stmt := top 36
theorem sc_check_octets : FnScope ["octets", "octet"] ["octets"] (defScope s_check_octets) := ⟨rfl, rfl, rfl, by decide +kernel, rfl, by decide +kernel, by decide +kernel⟩
abbrev s_number_at : Stmt := top 37
theorem sc_number_at : FnScope ["octets", "at", "size"] ["octets", "at", "size"] (defScope s_number_at) := ⟨rfl, rfl, rfl, by decide +kernel, rfl, by decide +kernel, by decide +kernel⟩
abbrev s_numbers_at : Stmt := top 38
theorem sc_numbers_at : FnScope ["octets", "at", "size", "many"] ["octets", "at", "size", "many"] (defScope s_numbers_at) := ⟨rfl, rfl, rfl, by decide +kernel, rfl, by decide +kernel, by decide +kernel⟩
abbrev s_block_total : Stmt := top 39
theorem sc_block_total : FnScope ["many"] ["many"] (defScope s_block_total) := ⟨rfl, rfl, rfl, by decide +kernel, rfl, by decide +kernel, by decide +kernel⟩
abbrev s_bits_at : Stmt := top 40
theorem sc_bits_at : FnScope ["octets", "at", "many"] ["octets", "at", "many"] (defScope s_bits_at) := ⟨rfl, rfl, rfl, by decide +kernel, rfl, by decide +kernel, by decide +kernel⟩
abbrev s_told_bits : Stmt := top 41
theorem sc_told_bits : FnScope ["octets"] ["octets"] (defScope s_told_bits) := ⟨rfl, rfl, rfl, by decide +kernel, rfl, by decide +kernel, by decide +kernel⟩
abbrev s_law_cell_at : Stmt := top 43
theorem sc_law_cell_at : FnScope ["_law_script", "_law_k"] ["_law_script", "_law_k"] (defScope s_law_cell_at) := ⟨rfl, rfl, rfl, by decide +kernel, rfl, by decide +kernel, by decide +kernel⟩
abbrev s_law_whole : Stmt := top 44
theorem sc_law_whole : FnScope ["_law_found"] ["_law_found"] (defScope s_law_whole) := ⟨rfl, rfl, rfl, by decide +kernel, rfl, by decide +kernel, by decide +kernel⟩
abbrev s_law_bits : Stmt := top 45
theorem sc_law_bits : FnScope ["_law_script", "_law_bits_here", "_law_cell", "_law_number", "_law_piece", "_law_k"] ["_law_script"] (defScope s_law_bits) := ⟨rfl, rfl, rfl, by decide +kernel, rfl, by decide +kernel, by decide +kernel⟩
abbrev s_law_two : Stmt := top 46
theorem sc_law_two : FnScope ["_law_number"] ["_law_number"] (defScope s_law_two) := ⟨rfl, rfl, rfl, by decide +kernel, rfl, by decide +kernel, by decide +kernel⟩
abbrev s_law_written : Stmt := top 47
theorem sc_law_written : FnScope ["_law_bits_here", "_law_octets_here", "_law_start", "_law_octet", "_law_bit", "_law_ones"] ["_law_bits_here"] (defScope s_law_written) := ⟨rfl, rfl, rfl, by decide +kernel, rfl, by decide +kernel, by decide +kernel⟩
abbrev s_law_due : Stmt := top 48
theorem sc_law_due : FnScope ["_law_octets_here", "_law_many", "_law_bits_here", "_law_octet", "_law_k"] ["_law_octets_here"] (defScope s_law_due) := ⟨rfl, rfl, rfl, by decide +kernel, rfl, by decide +kernel, by decide +kernel⟩
abbrev s_law_told : Stmt := top 49
theorem sc_law_told : FnScope ["_law_octets_here", "_law_told_here", "_law_found", "e", "_law_others"] ["_law_octets_here"] (defScope s_law_told) := ⟨rfl, rfl, rfl, by decide +kernel, rfl, by decide +kernel, by decide +kernel⟩
abbrev s_law_changed : Stmt := top 50
theorem sc_law_changed : FnScope ["_law_octets_here", "_law_cell", "_law_number", "_law_at", "_law_drawn", "_law_bit"] ["_law_octets_here", "_law_cell"] (defScope s_law_changed) := ⟨rfl, rfl, rfl, by decide +kernel, rfl, by decide +kernel, by decide +kernel⟩
abbrev s_law_octets : Stmt := top 51
theorem sc_law_octets : FnScope ["_law_script", "_law_way", "_law_octets_here", "_law_bits_here", "_law_k", "_law_many"] ["_law_script"] (defScope s_law_octets) := ⟨rfl, rfl, rfl, by decide +kernel, rfl, by decide +kernel, by decide +kernel⟩
abbrev s_law : Stmt := top 52
theorem sc_law : FnScope ["_law_script", "_law_octets_here", "_law_handed", "_law_due_here", "_law_found"] ["_law_script"] (defScope s_law) := ⟨rfl, rfl, rfl, by decide +kernel, rfl, by decide +kernel, by decide +kernel⟩
structure FI (K : PySem.W.Frag) (n : Str) (st : Stmt) (f : Addr) (fd : FuncData) : Prop where
  a : PySem.W.nsIn K mainGlobals n = some (some (.ref f))
  F : Fun K n n st f fd
theorem lens1 {α : Type} {C : List α → Prop} {us : List α} (hl : us.length = 1) (h : ∀ x0, C [x0]) : C us := match us, hl with | [_], _ => h _
theorem df1 {K : PySem.W.Frag} {h : Heap} {mg : Str → Option Value} {n p0 : Str} {st : Stmt} {f : Addr} {fd : FuncData} (X : K.In h) (G : h.Ns mainGlobals mg) (d : FI K n st f fd) (b : ∀ (kV doc pm : Value) (an : Option Addr) (cdv ct : Value) (x0 : Value), bindArgs (PySem.W.fnOf n n (defArgs st) (defBody st) (defScope st) .none kV doc pm an cdv ct) ⟨[x0], []⟩ = pure (List.zip [p0] [x0])) : Df K mg n st [p0] f fd := ⟨d.F, d.F.binds (ps := [p0]) fun kV doc pm an cdv ct us hl => lens1 (C := fun us => bindArgs _ ⟨us, []⟩ = pure (List.zip ([p0] : List Str) us)) hl (b kV doc pm an cdv ct), PySem.W.mg_of X G d.a⟩
theorem lens2 {α : Type} {C : List α → Prop} {us : List α} (hl : us.length = 2) (h : ∀ x0 x1, C [x0, x1]) : C us := match us, hl with | [_, _], _ => h _ _
theorem df2 {K : PySem.W.Frag} {h : Heap} {mg : Str → Option Value} {n p0 p1 : Str} {st : Stmt} {f : Addr} {fd : FuncData} (X : K.In h) (G : h.Ns mainGlobals mg) (d : FI K n st f fd) (b : ∀ (kV doc pm : Value) (an : Option Addr) (cdv ct : Value) (x0 x1 : Value), bindArgs (PySem.W.fnOf n n (defArgs st) (defBody st) (defScope st) .none kV doc pm an cdv ct) ⟨[x0, x1], []⟩ = pure (List.zip [p0, p1] [x0, x1])) : Df K mg n st [p0, p1] f fd := ⟨d.F, d.F.binds (ps := [p0, p1]) fun kV doc pm an cdv ct us hl => lens2 (C := fun us => bindArgs _ ⟨us, []⟩ = pure (List.zip ([p0, p1] : List Str) us)) hl (b kV doc pm an cdv ct), PySem.W.mg_of X G d.a⟩
theorem lens3 {α : Type} {C : List α → Prop} {us : List α} (hl : us.length = 3) (h : ∀ x0 x1 x2, C [x0, x1, x2]) : C us := match us, hl with | [_, _, _], _ => h _ _ _
theorem df3 {K : PySem.W.Frag} {h : Heap} {mg : Str → Option Value} {n p0 p1 p2 : Str} {st : Stmt} {f : Addr} {fd : FuncData} (X : K.In h) (G : h.Ns mainGlobals mg) (d : FI K n st f fd) (b : ∀ (kV doc pm : Value) (an : Option Addr) (cdv ct : Value) (x0 x1 x2 : Value), bindArgs (PySem.W.fnOf n n (defArgs st) (defBody st) (defScope st) .none kV doc pm an cdv ct) ⟨[x0, x1, x2], []⟩ = pure (List.zip [p0, p1, p2] [x0, x1, x2])) : Df K mg n st [p0, p1, p2] f fd := ⟨d.F, d.F.binds (ps := [p0, p1, p2]) fun kV doc pm an cdv ct us hl => lens3 (C := fun us => bindArgs _ ⟨us, []⟩ = pure (List.zip ([p0, p1, p2] : List Str) us)) hl (b kV doc pm an cdv ct), PySem.W.mg_of X G d.a⟩
theorem lens4 {α : Type} {C : List α → Prop} {us : List α} (hl : us.length = 4) (h : ∀ x0 x1 x2 x3, C [x0, x1, x2, x3]) : C us := match us, hl with | [_, _, _, _], _ => h _ _ _ _
theorem df4 {K : PySem.W.Frag} {h : Heap} {mg : Str → Option Value} {n p0 p1 p2 p3 : Str} {st : Stmt} {f : Addr} {fd : FuncData} (X : K.In h) (G : h.Ns mainGlobals mg) (d : FI K n st f fd) (b : ∀ (kV doc pm : Value) (an : Option Addr) (cdv ct : Value) (x0 x1 x2 x3 : Value), bindArgs (PySem.W.fnOf n n (defArgs st) (defBody st) (defScope st) .none kV doc pm an cdv ct) ⟨[x0, x1, x2, x3], []⟩ = pure (List.zip [p0, p1, p2, p3] [x0, x1, x2, x3])) : Df K mg n st [p0, p1, p2, p3] f fd := ⟨d.F, d.F.binds (ps := [p0, p1, p2, p3]) fun kV doc pm an cdv ct us hl => lens4 (C := fun us => bindArgs _ ⟨us, []⟩ = pure (List.zip ([p0, p1, p2, p3] : List Str) us)) hl (b kV doc pm an cdv ct), PySem.W.mg_of X G d.a⟩
set_option genInjectivity false in
set_option genSizeOf false in
structure Ad where
  f_packed : Addr
  fd_packed : FuncData
  f_check_row : Addr
  fd_check_row : FuncData
  f_block_of : Addr
  fd_block_of : FuncData
  f_unpacked : Addr
  fd_unpacked : FuncData
  f_bit_in : Addr
  fd_bit_in : FuncData
  f_bits_of : Addr
  fd_bits_of : FuncData
  f_ones_in : Addr
  fd_ones_in : FuncData
  f_octets_of : Addr
  fd_octets_of : FuncData
  f_number_of : Addr
  fd_number_of : FuncData
  f_kept_row : Addr
  fd_kept_row : FuncData
  f_ahead_of : Addr
  fd_ahead_of : FuncData
  f_numbers_octets : Addr
  fd_numbers_octets : FuncData
  f_bits_octets : Addr
  fd_bits_octets : FuncData
  f_row_octets : Addr
  fd_row_octets : FuncData
  f_read_row : Addr
  fd_read_row : FuncData
  f_read_as : Addr
  fd_read_as : FuncData
  f_check_octets : Addr
  fd_check_octets : FuncData
  f_number_at : Addr
  fd_number_at : FuncData
  f_numbers_at : Addr
  fd_numbers_at : FuncData
  f_block_total : Addr
  fd_block_total : FuncData
  f_bits_at : Addr
  fd_bits_at : FuncData
  f_told_bits : Addr
  fd_told_bits : FuncData
  f_law_cell_at : Addr
  fd_law_cell_at : FuncData
  f_law_whole : Addr
  fd_law_whole : FuncData
  f_law_bits : Addr
  fd_law_bits : FuncData
  f_law_two : Addr
  fd_law_two : FuncData
  f_law_written : Addr
  fd_law_written : FuncData
  f_law_due : Addr
  fd_law_due : FuncData
  f_law_told : Addr
  fd_law_told : FuncData
  f_law_changed : Addr
  fd_law_changed : FuncData
  f_law_octets : Addr
  fd_law_octets : FuncData
  f_law : Addr
  fd_law : FuncData
  t_BLOCK_BITS : Tok
  t_BLOCK_OCTETS : Tok
  t_COUNT_OCTETS : Tok
  t_MOST_BITS : Tok
  t_ROW : Tok
  c_NoBit : Addr
  c_NoNode : Addr
  c_NoOctets : Addr
  c_NoPlace : Addr
  c_NoSign : Addr
  c_NoTree : Addr
  c_NoWord : Addr
  c_TooMany : Addr
  c_Twice : Addr
  c_WoodError : Addr
structure Tx (K : PySem.W.Frag) (mg : Str → Option Value) (a : Ad) : Prop where
  D_packed : Df K mg "packed" s_packed ["bits"] a.f_packed a.fd_packed
  D_check_row : Df K mg "check_row" s_check_row ["bits"] a.f_check_row a.fd_check_row
  D_block_of : Df K mg "block_of" s_block_of ["bits"] a.f_block_of a.fd_block_of
  D_unpacked : Df K mg "unpacked" s_unpacked ["blocks", "many"] a.f_unpacked a.fd_unpacked
  D_bit_in : Df K mg "bit_in" s_bit_in ["block", "k"] a.f_bit_in a.fd_bit_in
  D_bits_of : Df K mg "bits_of" s_bits_of ["block", "upto"] a.f_bits_of a.fd_bits_of
  D_ones_in : Df K mg "ones_in" s_ones_in ["block", "upto"] a.f_ones_in a.fd_ones_in
  D_octets_of : Df K mg "octets_of" s_octets_of ["number", "many"] a.f_octets_of a.fd_octets_of
  D_number_of : Df K mg "number_of" s_number_of ["octets"] a.f_number_of a.fd_number_of
  D_kept_row : Df K mg "kept_row" s_kept_row ["bits"] a.f_kept_row a.fd_kept_row
  D_ahead_of : Df K mg "ahead_of" s_ahead_of ["blocks"] a.f_ahead_of a.fd_ahead_of
  D_numbers_octets : Df K mg "numbers_octets" s_numbers_octets ["numbers", "size"] a.f_numbers_octets a.fd_numbers_octets
  D_bits_octets : Df K mg "bits_octets" s_bits_octets ["blocks", "ahead"] a.f_bits_octets a.fd_bits_octets
  D_row_octets : Df K mg "row_octets" s_row_octets ["bits"] a.f_row_octets a.fd_row_octets
  D_read_row : Df K mg "read_row" s_read_row ["octets"] a.f_read_row a.fd_read_row
  D_read_as : Df K mg "read_as" s_read_as ["octets", "tell", "write"] a.f_read_as a.fd_read_as
  D_check_octets : Df K mg "check_octets" s_check_octets ["octets"] a.f_check_octets a.fd_check_octets
  D_number_at : Df K mg "number_at" s_number_at ["octets", "at", "size"] a.f_number_at a.fd_number_at
  D_numbers_at : Df K mg "numbers_at" s_numbers_at ["octets", "at", "size", "many"] a.f_numbers_at a.fd_numbers_at
  D_block_total : Df K mg "block_total" s_block_total ["many"] a.f_block_total a.fd_block_total
  D_bits_at : Df K mg "bits_at" s_bits_at ["octets", "at", "many"] a.f_bits_at a.fd_bits_at
  D_told_bits : Df K mg "told_bits" s_told_bits ["octets"] a.f_told_bits a.fd_told_bits
  D_law_cell_at : Df K mg "_law_cell_at" s_law_cell_at ["_law_script", "_law_k"] a.f_law_cell_at a.fd_law_cell_at
  D_law_whole : Df K mg "_law_whole" s_law_whole ["_law_found"] a.f_law_whole a.fd_law_whole
  D_law_bits : Df K mg "_law_bits" s_law_bits ["_law_script"] a.f_law_bits a.fd_law_bits
  D_law_two : Df K mg "_law_two" s_law_two ["_law_number"] a.f_law_two a.fd_law_two
  D_law_written : Df K mg "_law_written" s_law_written ["_law_bits_here"] a.f_law_written a.fd_law_written
  D_law_due : Df K mg "_law_due" s_law_due ["_law_octets_here"] a.f_law_due a.fd_law_due
  D_law_told : Df K mg "_law_told" s_law_told ["_law_octets_here"] a.f_law_told a.fd_law_told
  D_law_changed : Df K mg "_law_changed" s_law_changed ["_law_octets_here", "_law_cell"] a.f_law_changed a.fd_law_changed
  D_law_octets : Df K mg "_law_octets" s_law_octets ["_law_script"] a.f_law_octets a.fd_law_octets
  D_law : Df K mg "law" s_law ["_law_script"] a.f_law a.fd_law
  b_ValueError : mg "ValueError" = none
  b_bool : mg "bool" = none
  b_int : mg "int" = none
  b_isinstance : mg "isinstance" = none
  b_len : mg "len" = none
  b_list : mg "list" = none
  b_min : mg "min" = none
  b_range : mg "range" = none
  b_reversed : mg "reversed" = none
  b_sum : mg "sum" = none
  b_tuple : mg "tuple" = none
  c_BLOCK_BITS : mg "BLOCK_BITS" = some (.int 32 a.t_BLOCK_BITS)
  c_BLOCK_OCTETS : mg "BLOCK_OCTETS" = some (.int 4 a.t_BLOCK_OCTETS)
  c_COUNT_OCTETS : mg "COUNT_OCTETS" = some (.int 2 a.t_COUNT_OCTETS)
  c_MOST_BITS : mg "MOST_BITS" = some (.int 4096 a.t_MOST_BITS)
  c_ROW : mg "ROW" = some (.int 1 a.t_ROW)
  g_NoBit : mg "NoBit" = some (.ref a.c_NoBit)
  g_NoNode : mg "NoNode" = some (.ref a.c_NoNode)
  g_NoOctets : mg "NoOctets" = some (.ref a.c_NoOctets)
  g_NoPlace : mg "NoPlace" = some (.ref a.c_NoPlace)
  g_NoSign : mg "NoSign" = some (.ref a.c_NoSign)
  g_NoTree : mg "NoTree" = some (.ref a.c_NoTree)
  g_NoWord : mg "NoWord" = some (.ref a.c_NoWord)
  g_TooMany : mg "TooMany" = some (.ref a.c_TooMany)
  g_Twice : mg "Twice" = some (.ref a.c_Twice)
  g_WoodError : mg "WoodError" = some (.ref a.c_WoodError)
  x_NoBit : Exc K mg "NoBit" a.c_NoBit
  k_NoBit : ExcK K a.c_NoBit
  i_NoBit_NoBit : PySem.W.kitOne K (.ref a.c_NoBit) (.ref a.c_NoBit) = some true
  i_NoBit_NoNode : PySem.W.kitOne K (.ref a.c_NoBit) (.ref a.c_NoNode) = some false
  i_NoBit_NoOctets : PySem.W.kitOne K (.ref a.c_NoBit) (.ref a.c_NoOctets) = some false
  i_NoBit_NoPlace : PySem.W.kitOne K (.ref a.c_NoBit) (.ref a.c_NoPlace) = some false
  i_NoBit_NoSign : PySem.W.kitOne K (.ref a.c_NoBit) (.ref a.c_NoSign) = some false
  i_NoBit_NoTree : PySem.W.kitOne K (.ref a.c_NoBit) (.ref a.c_NoTree) = some false
  i_NoBit_NoWord : PySem.W.kitOne K (.ref a.c_NoBit) (.ref a.c_NoWord) = some false
  i_NoBit_TooMany : PySem.W.kitOne K (.ref a.c_NoBit) (.ref a.c_TooMany) = some false
  i_NoBit_Twice : PySem.W.kitOne K (.ref a.c_NoBit) (.ref a.c_Twice) = some false
  i_NoBit_WoodError : PySem.W.kitOne K (.ref a.c_NoBit) (.ref a.c_WoodError) = some true
  i_NoBit_ValueError : PySem.W.kitOne K (.ref a.c_NoBit) (.type "ValueError") = some true
  x_NoOctets : Exc K mg "NoOctets" a.c_NoOctets
  k_NoOctets : ExcK K a.c_NoOctets
  i_NoOctets_NoBit : PySem.W.kitOne K (.ref a.c_NoOctets) (.ref a.c_NoBit) = some false
  i_NoOctets_NoNode : PySem.W.kitOne K (.ref a.c_NoOctets) (.ref a.c_NoNode) = some false
  i_NoOctets_NoOctets : PySem.W.kitOne K (.ref a.c_NoOctets) (.ref a.c_NoOctets) = some true
  i_NoOctets_NoPlace : PySem.W.kitOne K (.ref a.c_NoOctets) (.ref a.c_NoPlace) = some false
  i_NoOctets_NoSign : PySem.W.kitOne K (.ref a.c_NoOctets) (.ref a.c_NoSign) = some false
  i_NoOctets_NoTree : PySem.W.kitOne K (.ref a.c_NoOctets) (.ref a.c_NoTree) = some false
  i_NoOctets_NoWord : PySem.W.kitOne K (.ref a.c_NoOctets) (.ref a.c_NoWord) = some false
  i_NoOctets_TooMany : PySem.W.kitOne K (.ref a.c_NoOctets) (.ref a.c_TooMany) = some false
  i_NoOctets_Twice : PySem.W.kitOne K (.ref a.c_NoOctets) (.ref a.c_Twice) = some false
  i_NoOctets_WoodError : PySem.W.kitOne K (.ref a.c_NoOctets) (.ref a.c_WoodError) = some true
  i_NoOctets_ValueError : PySem.W.kitOne K (.ref a.c_NoOctets) (.type "ValueError") = some true
  x_TooMany : Exc K mg "TooMany" a.c_TooMany
  k_TooMany : ExcK K a.c_TooMany
  i_TooMany_NoBit : PySem.W.kitOne K (.ref a.c_TooMany) (.ref a.c_NoBit) = some false
  i_TooMany_NoNode : PySem.W.kitOne K (.ref a.c_TooMany) (.ref a.c_NoNode) = some false
  i_TooMany_NoOctets : PySem.W.kitOne K (.ref a.c_TooMany) (.ref a.c_NoOctets) = some false
  i_TooMany_NoPlace : PySem.W.kitOne K (.ref a.c_TooMany) (.ref a.c_NoPlace) = some false
  i_TooMany_NoSign : PySem.W.kitOne K (.ref a.c_TooMany) (.ref a.c_NoSign) = some false
  i_TooMany_NoTree : PySem.W.kitOne K (.ref a.c_TooMany) (.ref a.c_NoTree) = some false
  i_TooMany_NoWord : PySem.W.kitOne K (.ref a.c_TooMany) (.ref a.c_NoWord) = some false
  i_TooMany_TooMany : PySem.W.kitOne K (.ref a.c_TooMany) (.ref a.c_TooMany) = some true
  i_TooMany_Twice : PySem.W.kitOne K (.ref a.c_TooMany) (.ref a.c_Twice) = some false
  i_TooMany_WoodError : PySem.W.kitOne K (.ref a.c_TooMany) (.ref a.c_WoodError) = some true
  i_TooMany_ValueError : PySem.W.kitOne K (.ref a.c_TooMany) (.type "ValueError") = some true
  x_WoodError : Exc K mg "WoodError" a.c_WoodError
  k_WoodError : ExcK K a.c_WoodError
  i_WoodError_NoBit : PySem.W.kitOne K (.ref a.c_WoodError) (.ref a.c_NoBit) = some false
  i_WoodError_NoNode : PySem.W.kitOne K (.ref a.c_WoodError) (.ref a.c_NoNode) = some false
  i_WoodError_NoOctets : PySem.W.kitOne K (.ref a.c_WoodError) (.ref a.c_NoOctets) = some false
  i_WoodError_NoPlace : PySem.W.kitOne K (.ref a.c_WoodError) (.ref a.c_NoPlace) = some false
  i_WoodError_NoSign : PySem.W.kitOne K (.ref a.c_WoodError) (.ref a.c_NoSign) = some false
  i_WoodError_NoTree : PySem.W.kitOne K (.ref a.c_WoodError) (.ref a.c_NoTree) = some false
  i_WoodError_NoWord : PySem.W.kitOne K (.ref a.c_WoodError) (.ref a.c_NoWord) = some false
  i_WoodError_TooMany : PySem.W.kitOne K (.ref a.c_WoodError) (.ref a.c_TooMany) = some false
  i_WoodError_Twice : PySem.W.kitOne K (.ref a.c_WoodError) (.ref a.c_Twice) = some false
  i_WoodError_WoodError : PySem.W.kitOne K (.ref a.c_WoodError) (.ref a.c_WoodError) = some true
  i_WoodError_ValueError : PySem.W.kitOne K (.ref a.c_WoodError) (.type "ValueError") = some true
theorem bt_ValueError : bootBuiltins "ValueError" = some (.type "ValueError") := by decide +kernel
/-- the octets of a number, the one of least weight first -/
def octs (b : Int) (n : Nat) : List Int := (List.range n).map fun i => b / 256 ^ i % 256
def valO : List Int → Int
  | [] => 0
  | x :: r => 256 * valO r + x
theorem octs_length (b : Int) (n : Nat) : (octs b n).length = n := by simp [octs]
theorem octs_succ (b : Int) (n : Nat) : octs b (n + 1) = octs b n ++ [b / 256 ^ n % 256] := by simp [octs, List.range_succ]
theorem next_oct (b : Int) (k : Nat) : b / 256 ^ k / 256 = b / 256 ^ (k + 1) := by
  rw [Int.ediv_ediv_of_nonneg (Int.pow_nonneg (by decide)), Int.pow_succ]
theorem valO_snoc (r : List Int) (x : Int) : valO (r ++ [x]) = valO r + x * 256 ^ r.length := by
  induction r with
  | nil => simp [valO]
  | cons y r ih =>
    simp only [List.cons_append, valO, ih, List.length_cons, Int.pow_succ]
    rw [Int.mul_add, Int.mul_comm (256 ^ r.length) 256, ← Int.mul_assoc, ← Int.mul_assoc, Int.mul_comm 256 x]
    omega
theorem valO_octs_mod (b : Int) : ∀ n : Nat, valO (octs b n) = b % 256 ^ n
  | 0 => by simp [octs, valO]
  | n + 1 => by
    rw [octs_succ, valO_snoc, valO_octs_mod b n, octs_length]
    have hp : (0 : Int) < 256 ^ n := Int.pow_pos (by decide)
    have e1 := Int.emod_add_mul_ediv b (256 ^ n)
    have e2 := Int.emod_add_mul_ediv (b / 256 ^ n) 256
    have e3 := Int.emod_add_mul_ediv b (256 ^ (n + 1))
    rw [next_oct] at e2
    rw [Int.pow_succ] at e3 ⊢
    have h1 : (256 : Int) ^ n * (b / 256 ^ n) = 256 ^ n * (b / 256 ^ n % 256) + 256 ^ n * 256 * (b / 256 ^ (n + 1)) := by
      rw [Int.mul_assoc, ← Int.mul_add, e2]
    rw [Int.pow_succ] at h1
    rw [Int.mul_comm (b / 256 ^ n % 256)]
    omega
theorem valO_octs (b : Int) (n : Nat) (h0 : 0 ≤ b) (h1 : b < 256 ^ n) : valO (octs b n) = b := by
  rw [valO_octs_mod, Int.emod_eq_of_lt h0 h1]
theorem blk_drop : ∀ {ns : List Int}, IsBits ns → ∀ k : Nat, blk ns / 2 ^ k = blk (ns.drop k)
  | ns, _, 0 => by rw [Int.pow_zero, Int.ediv_one, List.drop_zero]
  | [], _, k + 1 => by simp [blk]
  | b :: r, h, k + 1 => by
    have hb := h.head
    rw [List.drop_succ_cons, ← blk_drop h.tail k, Int.pow_succ, Int.mul_comm (2 ^ k) 2, ← Int.ediv_ediv_of_nonneg (by decide)]
    have e : blk (b :: r) / 2 = blk r := by
      simp only [blk]
      omega
    rw [e]
theorem blk_mod : ∀ {ns : List Int}, IsBits ns → ∀ k : Nat, blk ns % 2 ^ k = blk (ns.take k)
  | ns, _, 0 => by rw [Int.pow_zero, Int.emod_one, List.take_zero]; rfl
  | [], _, k + 1 => by simp [blk]
  | b :: r, h, k + 1 => by
    have hb := h.head
    have ih := blk_mod h.tail k
    have hp : (0 : Int) < 2 ^ k := Int.pow_pos (by decide)
    have e1 := Int.emod_add_mul_ediv (blk r) (2 ^ k)
    have l0 := Int.emod_nonneg (blk r) (show (2 : Int) ^ k ≠ 0 by omega)
    have l1 := Int.emod_lt_of_pos (blk r) hp
    rw [List.take_succ_cons]
    simp only [blk]
    rw [← ih, Int.pow_succ]
    have e2 : 2 * blk r + b = (2 * (blk r % 2 ^ k) + b) + (2 ^ k * 2) * (blk r / 2 ^ k) := by
      rw [Int.mul_assoc, Int.mul_comm 2 (blk r / 2 ^ k), ← Int.mul_assoc]
      omega
    rw [e2, Int.add_mul_emod_self_left, Int.emod_eq_of_lt (by omega) (by omega)]
/-- the octet of the bits from the 8 * i-th on -/
def oct8 (ns : List Int) (i : Nat) : Int := blk ((ns.drop (8 * i)).take 8)
theorem oct8_far {ns : List Int} {i : Nat} (h : ns.length ≤ 8 * i) : oct8 ns i = 0 := by
  unfold oct8
  rw [List.drop_of_length_le h]
  rfl
theorem oct_blk {ns : List Int} (h : IsBits ns) (q t : Nat) (ht : t < 4) : blkAt ns q / 256 ^ t % 256 = oct8 ns (4 * q + t) := by
  have e : (256 : Int) ^ t = 2 ^ (8 * t) := by
    have : t = 0 ∨ t = 1 ∨ t = 2 ∨ t = 3 := by omega
    rcases this with rfl | rfl | rfl | rfl <;> decide
  have hs := seg_bits h q
  unfold blkAt oct8
  rw [e, blk_drop hs, show (256 : Int) = 2 ^ 8 from by decide, blk_mod (fun x hx => hs x (List.mem_of_mem_drop hx)), List.drop_take, List.take_take, List.drop_drop, show 32 * q + 8 * t = 8 * (4 * q + t) from by omega, Nat.min_eq_left (by omega)]
theorem octs_four (x : Int) : octs x 4 = [x / 256 ^ 0 % 256, x / 256 ^ 1 % 256, x / 256 ^ 2 % 256, x / 256 ^ 3 % 256] := rfl
theorem octs_two {x : Int} (h0 : 0 ≤ x) (h1 : x < 65536) : octs x 2 = [x % 256, x / 256] := by
  show [x / 256 ^ 0 % 256, x / 256 ^ 1 % 256] = _
  rw [Int.pow_zero, Int.ediv_one, Int.pow_succ, Int.pow_zero, Int.one_mul]
  congr 2
  omega
theorem blocks_octs {ns : List Int} (h : IsBits ns) : ∀ m : Nat, ((List.range m).map (blkAt ns)).flatMap (fun x => octs x 4) = (List.range (4 * m)).map (oct8 ns)
  | 0 => rfl
  | m + 1 => by
    rw [List.range_succ, List.map_append, List.flatMap_append, blocks_octs h m]
    show _ ++ (octs (blkAt ns m) 4 ++ []) = _
    rw [List.append_nil, octs_four, oct_blk h m 0 (by omega), oct_blk h m 1 (by omega), oct_blk h m 2 (by omega), oct_blk h m 3 (by omega), show 4 * (m + 1) = 4 * m + 1 + 1 + 1 + 1 from by omega, List.range_succ, List.range_succ, List.range_succ, List.range_succ]
    simp
def rowO (ns : List Int) : List Int := [1] ++ octs (ns.length : Int) 2 ++ ((packs ns).flatMap (fun x => octs x 4) ++ (ahd ns (many ns.length)).flatMap (fun x => octs x 2))
/-- what stands written when the ones of j blocks are -/
def LO (ns : List Int) (j : Nat) : List Int := (List.range (4 * many ns.length)).map (oct8 ns) ++ (ahd ns j).flatMap (fun x => octs x 2)
theorem ahd_next (ns : List Int) (j : Nat) : ahd ns (j + 1) = ahd ns j ++ [(ns.take (32 * (j + 1))).sum] := by
  unfold ahd
  rw [List.range_succ, List.map_append]
  rfl
theorem LO_succ (ns : List Int) (j : Nat) : LO ns (j + 1) = LO ns j ++ octs (ns.take (32 * (j + 1))).sum 2 := by
  unfold LO
  rw [ahd_next, List.flatMap_append, List.append_assoc]
  simp
theorem flat_len (k : Nat) : ∀ ns : List Int, (ns.flatMap (fun x => octs x k)).length = k * ns.length
  | [] => by simp
  | x :: r => by rw [List.flatMap_cons, List.length_append, flat_len k r, octs_length, List.length_cons, Nat.mul_succ]; omega
theorem LO_length (ns : List Int) (j : Nat) : (LO ns j).length = 4 * many ns.length + 2 * (j + 1) := by
  unfold LO
  rw [List.length_append, List.length_map, List.length_range, flat_len, ahd_length]
theorem rowO_LO {ns : List Int} (h : IsBits ns) : rowO ns = [1] ++ octs (ns.length : Int) 2 ++ LO ns (many ns.length) := by
  unfold rowO LO packs
  rw [blocks_octs h]
theorem bits_sum_le {ns : List Int} (h : IsBits ns) : 0 ≤ ns.sum ∧ ns.sum ≤ ns.length := by
  induction ns with
  | nil => simp
  | cons b r ih =>
    have := ih h.tail
    have := h.head
    rw [List.sum_cons, List.length_cons]
    omega
section
variable {P : Program} {w : World} {K : PySem.W.Frag} {mg : Str → Option Value} {base : Heap} {a : Ad}
theorem band_one (x : Int) : Builtin.bitAnd x 1 = x % 2 := by
  unfold Builtin.bitAnd
  by_cases hx : 0 ≤ x
  · simp [hx]
    omega
  · simp [hx]
    unfold Builtin.bitNot
    omega
def sp_bit_in : Sp := fun vs H Q _ => ∃ (b k : Int), vs = [.int b, .int k] ∧ 0 ≤ k ∧ Q (.int (bit b k.toNat)) H
theorem ok_bit_in (T : Tx K mg a) : FnOk P w K mg base CX0 1 a.f_bit_in a.fd_bit_in ["block", "k"] sp_bit_in := by
  refine T.D_bit_in.F.ok sc_bit_in (fun vs H Q E h => ?_) (fun cdv A outer s H vs Q E hr h => ?_)
  · obtain ⟨b, k, rfl, _⟩ := h
    rfl
  obtain ⟨b, k, rfl, h0, q⟩ := h
  refine ⟨_, (pss_one (ps_ret (pe_op op_and (pe_op op_shr (pv 0) (pv 1)) pe_int))), ?_⟩
  refine ⟨_, rfl, _, rfl, _, _, rfl, rfl, h0, _, _, rfl, rfl, ?_⟩
  have e : Builtin.bitAnd (b / 2 ^ k.toNat) 1 = bit b k.toNat := band_one _
  show Q (.int (Builtin.bitAnd (b / 2 ^ k.toNat) 1)) H
  rw [e]
  exact q

def sp_bits_of : Sp := fun vs H Q _ => ∃ (b n : Int), vs = [.int b, .int n] ∧ 0 ≤ n ∧ n ≤ 32 ∧ ∀ r, H r = none → Q (.ref r) (upd H r (.lst ((bits b n.toNat).map V.int)))
theorem ok_bits_of (T : Tx K mg a) : FnOk P w K mg base CX0 2 a.f_bits_of a.fd_bits_of ["block", "upto"] sp_bits_of := by
  refine T.D_bits_of.F.ok sc_bits_of (fun vs H Q E h => ?_) (fun cdv A outer s H vs Q E hr h => ?_)
  · obtain ⟨b, n, rfl, _⟩ := h
    rfl
  obtain ⟨b, n, rfl, h0, h1, q⟩ := h
  refine ⟨_, (pss_one (ps_ret (pe_comp rfl (CompOk.one (j := 0) rfl (Or.inl rfl) rfl rfl (Or.inl rfl)) (pi_range1 rfl T.b_range (pa_cons (pv 1) pa_nil)) (fun _ _ _ _ => pts_nil) (fun _ _ _ _ => (pe_cD T.D_bit_in (ok_bit_in T) (by decide) hr pass0 rfl (pa_cons (pv 1) (pa_cons (pv 0) pa_nil))))))), ?_⟩
  refine ⟨_, rfl, n, rfl, by omega, by omega, ?_⟩
  refine comp_rngS (fun j => bit b j) (by rw [sizeLine_eq]; omega) (fun _ _ _ q => q) (fun j H' Q hj sm q => ⟨_, rfl, _, rfl, _, _, rfl, by omega, ?_⟩) fun D hD => q D hD
  rw [show ((0 : Int) + (j : Int)).toNat = j from by omega]
  exact q

def sp_ones_in : Sp := fun vs H Q _ => ∃ (b n : Int), vs = [.int b, .int n] ∧ 0 ≤ n ∧ n ≤ 32 ∧ ∀ H', Same H H' → Q (.int (ones b n.toNat)) H'
theorem ok_ones_in (T : Tx K mg a) : FnOk P w K mg base CX0 3 a.f_ones_in a.fd_ones_in ["block", "upto"] sp_ones_in := by
  refine T.D_ones_in.F.ok sc_ones_in (fun vs H Q E h => ?_) (fun cdv A outer s H vs Q E hr h => ?_)
  · obtain ⟨b, n, rfl, _⟩ := h
    rfl
  obtain ⟨b, n, rfl, h0, h1, q⟩ := h
  refine ⟨_, (pss_one (ps_ret (pe_callB (call_sum rfl) rfl T.b_sum Tw.bt_sum (pa_cons (pe_cD T.D_bits_of (ok_bits_of T) (by decide) hr pass0 rfl (pa_cons (pv 0) (pa_cons (pv 1) pa_nil))) pa_nil)))), ?_⟩
  exact ⟨_, rfl, _, rfl, b, n, rfl, h0, h1, fun r hr' => ⟨r, bits b n.toNat, rfl, SqL.of upd_same, q _ (same_new hr' _)⟩⟩

def sp_block_of (K : PySem.W.Frag) : Sp := fun vs H Q _ => ∃ (p : Addr) (ns : List Int), vs = [.ref p] ∧ SqL K H p (ns.map V.int) ∧ Q (.int (blk ns)) H
theorem ok_block_of (T : Tx K mg a) : FnOk P w K mg base CX0 1 a.f_block_of a.fd_block_of ["bits"] (sp_block_of K) := by
  refine T.D_block_of.F.ok sc_block_of (fun vs H Q E h => ?_) (fun cdv A outer s H vs Q E hr h => ?_)
  · obtain ⟨p, ns, rfl, _⟩ := h
    rfl
  obtain ⟨p, ns, rfl, hS, q⟩ := h
  refine ⟨_, (pss_cons (ps_set (i := 1) sc_block_of.nd rfl (Or.inl rfl) pe_int)
    (pss_cons (ps_for PassesOwn.never rfl (pi_rev rfl T.b_reversed (pa_cons (pv 0) pa_nil) Tw.bt_reversed) (pg_name (i := 2) sc_block_of.nd rfl (Or.inl rfl)) (pss_one (ps_set (i := 1) sc_block_of.nd rfl (Or.inl rfl) (pe_op op_add (pe_op op_mul pe_int (pv 1)) (pv 2)))))
    (pss_one (ps_ret (pv 1))))), ?_⟩
  refine ⟨_, rfl, p, _, rfl, hS, ?_⟩
  refine for_rev (xs := ns.map V.int) (fun i σ H' => (∃ k, σ = [some (.ref p), some (.int (blk (ns.drop (ns.length - i)))), k]) ∧ H' = H) ?_ ?_ ?_ ?_
  · refine ⟨⟨none, ?_⟩, rfl⟩
    rw [Nat.sub_zero, List.drop_length]
    rfl
  · rintro i σ H' _ ⟨_, rfl⟩
    exact hS
  · rintro i x σ H' hi hx ⟨⟨k, rfl⟩, rfl⟩
    obtain ⟨c, hc, rfl⟩ := int_at hx
    rw [List.length_map] at hi hc
    refine ⟨_, rfl, _, _, rfl, rfl, .inl ⟨by decide, by decide⟩, _, rfl, _, _, rfl, rfl, ⟨some (.int c), ?_⟩, rfl⟩
    have e : ns.drop (ns.length - (i + 1)) = c :: ns.drop (ns.length - i) := by
      have e1 : ns.length - (i + 1) = ns.length - 1 - i := by omega
      have e2 : ns.length - i = ns.length - 1 - i + 1 := by omega
      rw [e1, e2, List.drop_eq_getElem_cons (by omega)]
      congr 1
      have := List.getElem?_eq_some_iff.mp hc
      exact this.2
    rw [e]
    rfl
  · rintro σ H' ⟨⟨k, rfl⟩, rfl⟩
    rw [List.length_map, Nat.sub_self, List.drop_zero]
    exact ⟨_, rfl, q⟩

def sp_check_row (K : PySem.W.Frag) (C1 C2 : Addr) : Sp := fun vs H Q E => ∃ (p : Addr) (ns : List Int), vs = [.ref p] ∧ SqL K H p (ns.map V.int) ∧
  ((ns.length ≤ 4096 ∧ IsBits ns ∧ Q .non H) ∨ (4096 < ns.length ∧ E (.ref C1) none H) ∨ (ns.length ≤ 4096 ∧ ¬ IsBits ns ∧ E (.ref C2) none H))
theorem ok_check_row (T : Tx K mg a) : FnOk P w K mg base (CXC P w) 1 a.f_check_row a.fd_check_row ["bits"] (sp_check_row K a.c_TooMany a.c_NoBit) := by
  refine T.D_check_row.F.okC sc_check_row (fun vs H Q E h => ?_) (fun cdv A outer s H vs Q E hr h => ?_)
  · obtain ⟨p, ns, rfl, _⟩ := h
    rfl
  obtain ⟨p, ns, rfl, hS, h⟩ := h
  refine ⟨_, (pss_cons (ps_if (pt_cmpR op_gt (pe_callB call_len_seq rfl T.b_len Tw.bt_len (pa_cons (pv 0) pa_nil)) (pe_glob (v := .int 4096) rfl T.c_MOST_BITS ⟨_, rfl⟩) (nomark _)) (pss_one (ps_raiseC T.x_TooMany rfl (pa_cons pe_str pa_nil))) pss_nil)
    (pss_one (ps_for passOwnC rfl (pi_list (pv 0)) (pg_name (i := 1) sc_check_row.nd rfl (Or.inl rfl)) (pss_one (ps_if (PW.pt (pw_and (pt_cmpR op_ne (pv 1) pe_int (nomark _)) (pw_and1 (pt_cmpR op_ne (pv 1) pe_int (nomark _))))) (pss_one (ps_raiseC T.x_NoBit rfl (pa_cons pe_str pa_nil))) pss_nil))))), ?_⟩
  refine ⟨_, rfl, p, _, rfl, .inl hS, _, _, rfl, rfl, _, rfl, ite2 (fun c => ?_) fun c => ?_⟩
  · have c := of_decide_eq_true c
    rw [List.length_map] at c
    rcases h with ⟨h1, _⟩ | ⟨_, q⟩ | ⟨h1, _⟩
    · omega
    · exact ⟨(by show 1 ≤ sizeLine; decide), q⟩
    · omega
  have c : ¬ (4096 : Int) < ((ns.map V.int).length : Int) := fun z => c (decide_eq_true z)
  rw [List.length_map] at c
  refine ⟨_, rfl, p, rfl, ⟨_, hS⟩, ?_⟩
  refine for_list (xs := ns.map V.int) (fun i σ H' => (∃ k, σ = [some (.ref p), k]) ∧ H' = H ∧ IsBits (ns.take i)) ⟨⟨none, rfl⟩, rfl, fun x hx => by simp at hx⟩ ?_ ?_ ?_
  · rintro i σ H' _ ⟨_, rfl, _⟩
    exact hS
  · rintro i x σ H' hx ⟨⟨k, rfl⟩, rfl, hb⟩
    obtain ⟨c, hc, rfl⟩ := int_at hx
    have nxt : c = 0 ∨ c = 1 → IsBits (ns.take (i + 1)) := fun e x hx => by
      rw [List.take_add_one, hc] at hx
      rcases List.mem_append.mp hx with hx | hx
      · exact hb x hx
      · rw [List.mem_singleton.mp hx]
        exact e
    by_cases c0 : c = 0
    · subst c0
      exact ⟨_, rfl, rfl, _, rfl, iteNS rfl (iteF ⟨⟨_, rfl⟩, rfl, nxt (.inl rfl)⟩)⟩
    by_cases c1 : c = 1
    · subst c1
      refine ⟨_, rfl, rfl, _, rfl, ite2 (fun _ => ⟨_, rfl, rfl, _, rfl, iteNS rfl ⟨⟨_, rfl⟩, rfl, nxt (.inr rfl)⟩⟩) fun z => absurd ?_ z⟩
      decide
    refine ⟨_, rfl, rfl, _, rfl, ite2 (fun _ => ⟨_, rfl, rfl, _, rfl, ite2 (fun _ => ?_) fun z => absurd ?_ z⟩) fun z => absurd ?_ z⟩
    · rcases h with ⟨_, h1, _⟩ | ⟨h1, _⟩ | ⟨_, _, q⟩
      · rcases h1 c (List.mem_of_getElem? hc) with e | e
        · exact absurd e c0
        · exact absurd e c1
      · omega
      · exact ⟨(by show 1 ≤ sizeLine; decide), q⟩
    · rw [dec_int]
      simp [c1]
    · rw [dec_int]
      simp [c0]
  · rintro σ H' ⟨_, rfl, hb⟩
    rw [List.length_map, List.take_length] at hb
    rcases h with ⟨_, _, q⟩ | ⟨h1, _⟩ | ⟨_, h1, _⟩
    · exact q
    · omega
    · exact absurd hb h1

def sp_packed (K : PySem.W.Frag) (C1 C2 : Addr) : Sp := fun vs H Q E => ∃ (p : Addr) (ns : List Int), vs = [.ref p] ∧ SqL K H p (ns.map V.int) ∧
  ((ns.length ≤ 4096 ∧ IsBits ns ∧ ∀ r H', H r = none → Same H H' → H' r = some (.lst ((packs ns).map V.int)) → Q (.ref r) H') ∨ (4096 < ns.length ∧ E (.ref C1) none H) ∨ (ns.length ≤ 4096 ∧ ¬ IsBits ns ∧ E (.ref C2) none H))
theorem ok_packed (T : Tx K mg a) : FnOk P w K mg base (CXC P w) 2 a.f_packed a.fd_packed ["bits"] (sp_packed K a.c_TooMany a.c_NoBit) := by
  refine T.D_packed.F.okC sc_packed (fun vs H Q E h => ?_) (fun cdv A outer s H vs Q E hr h => ?_)
  · obtain ⟨p, ns, rfl, _⟩ := h
    rfl
  obtain ⟨p, ns, rfl, hS, h⟩ := h
  refine ⟨_, (pss_cons (ps_expr (pe_cD T.D_check_row (ok_check_row T) (by decide) hr passC rfl (pa_cons (pv 0) pa_nil)))
    (pss_one (ps_ret (pe_comp rfl (CompOk.one (j := 0) rfl (Or.inl rfl) rfl rfl (Or.inl rfl)) (pi_range3 rfl T.b_range (pa_cons pe_int (pa_cons (pe_callB call_len_seq rfl T.b_len Tw.bt_len (pa_cons (pv 0) pa_nil)) (pa_cons (pe_glob (v := .int 32) rfl T.c_BLOCK_BITS ⟨_, rfl⟩) pa_nil)))) (fun _ _ _ _ => pts_nil) (fun _ _ _ _ => (pe_cD T.D_block_of (ok_block_of T) (by decide) hr pass0 rfl (pa_cons (pe_slice (show SlR _ (rSlL K) from sl_list) (pv 1) (po_some (pv 0)) (po_some (pe_op op_add (pv 0) (pe_glob (v := .int 32) rfl T.c_BLOCK_BITS ⟨_, rfl⟩)))) pa_nil))))))), ?_⟩
  rcases h with ⟨hl, hb, q⟩ | h | h
  rotate_left
  · exact ⟨_, rfl, p, ns, rfl, hS, .inr (.inl h)⟩
  · exact ⟨_, rfl, p, ns, rfl, hS, .inr (.inr h)⟩
  refine ⟨_, rfl, p, ns, rfl, hS, .inl ⟨hl, hb, ?_⟩⟩
  refine ⟨_, rfl, p, _, rfl, .inl hS, (ns.map V.int).length, rfl, ?_, ?_⟩
  · rw [List.length_map]
    exact Nat.lt_of_le_of_lt hl (by decide)
  rw [List.length_map]
  intro D hD
  refine ⟨fun i m ys H1 => m = many ns.length - i ∧ i ≤ many ns.length ∧ ys = ((List.range i).map (blkAt ns)).map V.int ∧ Same H H1 ∧ H1 D = some (.lst ys), ⟨_, rfl, Nat.zero_le _, rfl, same_new hD _, upd_same⟩, ?_⟩
  rintro i m ys H1 ⟨rfl, hi, rfl, sm, hD1⟩
  by_cases hlt : i < many ns.length
  · refine .inr ⟨hlt, fun v H2 y => ?_⟩
    obtain ⟨rfl, rfl⟩ := y
    unfold tNoIf
    refine iteT ?_
    refine ⟨_, rfl, _, rfl, _, rfl, _, rfl, _, _, rfl, rfl, _, rfl, p, _, rfl, sm.seq hS, fun p2 hp2 => ?_⟩
    have e1 : (0 : Int) + (i : Int) * 32 = ((32 * i : Nat) : Int) := by omega
    have e2 : (0 : Int) + (i : Int) * 32 + 32 = ((32 * i + 32 : Nat) : Int) := by omega
    rw [e1, show ((32 * i : Nat) : Int) + 32 = ((32 * i + 32 : Nat) : Int) from by omega, cut_nat, Nat.add_sub_cancel_left]
    refine ⟨p2, _, rfl, SqL.of upd_same, ?_⟩
    have ne : D ≠ p2 := ne_of_none hD1 hp2
    refine ⟨by rw [upd_ne ne]; exact hD1, ?_, many ns.length - (i + 1), by omega, rfl, hlt, ?_, same_set (sm.trans (same_new hp2 _)) hD _, upd_same⟩
    · rw [List.length_map, List.length_map, List.length_range]
      unfold many at hlt
      exact small (by omega)
    · rw [List.range_succ, List.map_append, List.map_append]
      rfl
  · have e : i = many ns.length := by omega
    subst e
    exact .inl ⟨Nat.le_refl _, q D H1 hD sm hD1⟩

def sp_ahead_of (K : PySem.W.Frag) : Sp := fun vs H Q _ => ∃ (p : Addr) (bs : List Int), vs = [.ref p] ∧ SqL K H p (bs.map V.int) ∧ bs.length ≤ 4096 ∧ ∀ r H', H r = none → Same H H' → H' r = some (.tup ((aheads bs bs.length).map V.int)) → Q (.ref r) H'
theorem ok_ahead_of (T : Tx K mg a) : FnOk P w K mg base CX0 4 a.f_ahead_of a.fd_ahead_of ["blocks"] (sp_ahead_of K) := by
  refine T.D_ahead_of.F.ok sc_ahead_of (fun vs H Q E h => ?_) (fun cdv A outer s H vs Q E hr h => ?_)
  · obtain ⟨p, bs, rfl, _⟩ := h
    rfl
  obtain ⟨p, bs, rfl, hS, hl, q⟩ := h
  refine ⟨_, (pss_cons (ps_set (i := 1) sc_ahead_of.nd rfl (Or.inl rfl) (pe_lst (pa_cons pe_int pa_nil)))
    (pss_cons (ps_for PassesOwn.never rfl (pi_list (pv 0)) (pg_name (i := 2) sc_ahead_of.nd rfl (Or.inl rfl)) (pss_one (ps_expr (pe_bm PySem.F.plainAttrs_list PySem.F.slot_list_append PySem.F.type_list_append mt_append (pv 1) (pa_cons (pe_op op_add (pe_ix ix_list (pv 1) (pe_un un_neg pe_int) (fun _ _ => rfl)) (pe_cD T.D_ones_in (ok_ones_in T) (by decide) hr pass0 rfl (pa_cons (pv 2) (pa_cons (pe_glob (v := .int 32) rfl T.c_BLOCK_BITS ⟨_, rfl⟩) pa_nil)))) pa_nil)))))
    (pss_one (ps_ret (pe_callTy call_tuple_of rfl T.b_tuple Tw.bt_tuple (pa_cons (pv 1) pa_nil)))))), ?_⟩
  refine ⟨(by show 1 ≤ sizeLine; decide), fun r hr' => ?_⟩
  refine ⟨_, rfl, p, rfl, ⟨_, (same_new hr' _).seq hS⟩, ?_⟩
  refine for_list (xs := bs.map V.int) (fun i σ H' => (∃ k, σ = [some (.ref p), some (.ref r), k]) ∧ Same H H' ∧ H' r = some (.lst ((aheads bs i).map V.int))) ?_ ?_ ?_ ?_
  · exact ⟨⟨none, rfl⟩, same_new hr' _, upd_same⟩
  · rintro i σ H' _ ⟨_, sm, _⟩
    exact sm.seq hS
  · rintro i x σ H' hx ⟨⟨k, rfl⟩, sm, hr1⟩
    obtain ⟨b, hb, rfl⟩ := int_at hx
    have hi := (List.getElem?_eq_some_iff.mp hb).1
    have hla : atI ((aheads bs i).map V.int) (-1) = some (.int (onesTo bs i)) := by
      rw [aheads_last, List.map_append]
      exact atI_last _ _
    refine ⟨_, rfl, .inl ⟨rfl, _, SqL.of hr1⟩, _, rfl, _, rfl, r, _, _, _, rfl, rfl, SqL.of hr1, hla, _, rfl, b, 32, rfl, by decide, by decide, fun H2 sm2 => ⟨_, _, rfl, rfl, r, _, _, rfl, rfl, sm2 _ _ hr1, ?_, ⟨_, rfl⟩, same_set (sm.trans sm2) hr' _, ?_⟩⟩
    · rw [List.length_map, aheads_length]
      exact small (by omega)
    · rw [upd_same, aheads_succ, List.map_append, onesTo_succ hb]
      rfl
  · rintro σ H' ⟨⟨k, rfl⟩, sm, hr1⟩
    rw [List.length_map] at hr1
    exact ⟨_, rfl, r, _, rfl, .inl ⟨SqL.of hr1, fun l hl => q l _ (sm.free hl) (sm.trans (same_new hl _)) upd_same⟩⟩

def sp_octets_of : Sp := fun vs H Q _ => ∃ (b n : Int), vs = [.int b, .int n] ∧ 0 ≤ n ∧ n ≤ 100 ∧ ∀ r, H r = none → Q (.ref r) (upd H r (.lst ((octs b n.toNat).map V.int)))
theorem ok_octets_of (T : Tx K mg a) : FnOk P w K mg base CX0 1 a.f_octets_of a.fd_octets_of ["number", "many"] sp_octets_of := by
  refine T.D_octets_of.F.ok sc_octets_of (fun vs H Q E h => ?_) (fun cdv A outer s H vs Q E hr h => ?_)
  · obtain ⟨b, n, rfl, _⟩ := h
    rfl
  obtain ⟨b, n, rfl, h0, h1, q⟩ := h
  refine ⟨_, (pss_cons (ps_set (i := 2) sc_octets_of.nd rfl (Or.inl rfl) (pe_lst pa_nil))
    (pss_cons (ps_set (i := 3) sc_octets_of.nd rfl (Or.inl rfl) (pv 0))
    (pss_cons (ps_for PassesOwn.never rfl (pi_range1 rfl T.b_range (pa_cons (pv 1) pa_nil)) (pg_name (i := 4) sc_octets_of.nd rfl (Or.inl rfl)) (pss_cons (ps_expr (pe_bm PySem.F.plainAttrs_list PySem.F.slot_list_append PySem.F.type_list_append mt_append (pv 2) (pa_cons (pe_op op_mod (pv 3) pe_int) pa_nil)))
    (pss_one (ps_set (i := 3) sc_octets_of.nd rfl (Or.inl rfl) (pe_op op_fdiv (pv 3) pe_int)))))
    (pss_one (ps_ret (pv 2)))))), ?_⟩
  refine ⟨(by show 0 ≤ sizeLine; decide), fun r hr' => ?_⟩
  refine ⟨_, rfl, _, rfl, n, rfl, by omega, by omega, ?_⟩
  refine for_range (n := n.toNat) (fun i σ H' => (∃ k, σ = [some (.int b), some (.int n), some (.ref r), some (.int (b / 256 ^ i)), k]) ∧ H' = upd H r (.lst ((octs b i).map V.int))) ?_ ?_ ?_
  · refine ⟨⟨none, ?_⟩, rfl⟩
    rw [Int.pow_zero, Int.ediv_one]
    rfl
  · rintro i σ H' hi ⟨⟨k, rfl⟩, rfl⟩
    refine ⟨_, rfl, .inl ⟨rfl, _, SqL.of upd_same⟩, _, rfl, _, _, rfl, rfl, (by show (0 : Int) < 256; decide), r, _, _, rfl, rfl, upd_same, ?_, ?_⟩
    · rw [List.length_map, octs_length]
      exact small (by omega)
    · refine ⟨_, rfl, _, _, rfl, rfl, ⟨by decide, by decide⟩, ⟨some (.int (0 + (i : Int))), ?_⟩, ?_⟩
      · rw [← next_oct]
        rfl
      · rw [upd_upd, octs_succ, List.map_append]
        rfl
  · rintro σ H' ⟨⟨k, rfl⟩, rfl⟩
    exact ⟨_, rfl, q r hr'⟩

def sp_number_of (K : PySem.W.Frag) : Sp := fun vs H Q _ => ∃ (p : Addr) (ns : List Int), vs = [.ref p] ∧ SqL K H p (ns.map V.int) ∧ Q (.int (valO ns)) H
theorem ok_number_of (T : Tx K mg a) : FnOk P w K mg base CX0 1 a.f_number_of a.fd_number_of ["octets"] (sp_number_of K) := by
  refine T.D_number_of.F.ok sc_number_of (fun vs H Q E h => ?_) (fun cdv A outer s H vs Q E hr h => ?_)
  · obtain ⟨p, ns, rfl, _⟩ := h
    rfl
  obtain ⟨p, ns, rfl, hS, q⟩ := h
  refine ⟨_, (pss_cons (ps_set (i := 1) sc_number_of.nd rfl (Or.inl rfl) pe_int)
    (pss_cons (ps_for PassesOwn.never rfl (pi_rev rfl T.b_reversed (pa_cons (pv 0) pa_nil) Tw.bt_reversed) (pg_name (i := 2) sc_number_of.nd rfl (Or.inl rfl)) (pss_one (ps_set (i := 1) sc_number_of.nd rfl (Or.inl rfl) (pe_op op_add (pe_op op_mul pe_int (pv 1)) (pv 2)))))
    (pss_one (ps_ret (pv 1))))), ?_⟩
  refine ⟨_, rfl, p, _, rfl, hS, ?_⟩
  refine for_rev (xs := ns.map V.int) (fun i σ H' => (∃ k, σ = [some (.ref p), some (.int (valO (ns.drop (ns.length - i)))), k]) ∧ H' = H) ?_ ?_ ?_ ?_
  · refine ⟨⟨none, ?_⟩, rfl⟩
    rw [Nat.sub_zero, List.drop_length]
    rfl
  · rintro i σ H' _ ⟨_, rfl⟩
    exact hS
  · rintro i x σ H' hi hx ⟨⟨k, rfl⟩, rfl⟩
    obtain ⟨c, hc, rfl⟩ := int_at hx
    rw [List.length_map] at hi hc
    refine ⟨_, rfl, _, _, rfl, rfl, .inl ⟨by decide, by decide⟩, _, rfl, _, _, rfl, rfl, ⟨some (.int c), ?_⟩, rfl⟩
    have e : ns.drop (ns.length - (i + 1)) = c :: ns.drop (ns.length - i) := by
      have e1 : ns.length - (i + 1) = ns.length - 1 - i := by omega
      have e2 : ns.length - i = ns.length - 1 - i + 1 := by omega
      rw [e1, e2, List.drop_eq_getElem_cons (by omega)]
      congr 1
      have := List.getElem?_eq_some_iff.mp hc
      exact this.2
    rw [e]
    rfl
  · rintro σ H' ⟨⟨k, rfl⟩, rfl⟩
    rw [List.length_map, Nat.sub_self, List.drop_zero]
    exact ⟨_, rfl, q⟩

def sp_numbers_octets (K : PySem.W.Frag) : Sp := fun vs H Q _ => ∃ (p : Addr) (ns : List Int) (m : Nat), vs = [.ref p, .int (m : Int)] ∧ (SqL K H p (ns.map V.int) ∨ H p = some (.tup (ns.map V.int))) ∧ ns.length ≤ 5000 ∧ m ≤ 100 ∧
  ∀ r H', H r = none → Same H H' → H' r = some (.lst ((ns.flatMap fun x => octs x m).map V.int)) → Q (.ref r) H'
theorem ok_numbers_octets (T : Tx K mg a) : FnOk P w K mg base CX0 2 a.f_numbers_octets a.fd_numbers_octets ["numbers", "size"] (sp_numbers_octets K) := by
  refine T.D_numbers_octets.F.ok sc_numbers_octets (fun vs H Q E h => ?_) (fun cdv A outer s H vs Q E hr h => ?_)
  · obtain ⟨p, ns, m, rfl, _⟩ := h
    rfl
  obtain ⟨p, ns, m, rfl, hS, hl, hm, q⟩ := h
  refine ⟨_, (pss_cons (ps_set (i := 2) sc_numbers_octets.nd rfl (Or.inl rfl) (pe_lst pa_nil))
    (pss_cons (ps_for PassesOwn.never rfl (pi_seq (pv 0)) (pg_name (i := 3) sc_numbers_octets.nd rfl (Or.inl rfl)) (pss_one (ps_expr (pe_bm PySem.F.plainAttrs_list PySem.F.slot_list_extend PySem.F.type_list_extend mt_extend (pv 2) (pa_cons (pe_cD T.D_octets_of (ok_octets_of T) (by decide) hr pass0 rfl (pa_cons (pv 3) (pa_cons (pv 1) pa_nil))) pa_nil)))))
    (pss_one (ps_ret (pv 2))))), ?_⟩
  refine ⟨(by show 0 ≤ sizeLine; decide), fun r hr' => ?_⟩
  rcases hS with hS | hS
  · refine ⟨_, rfl, p, rfl, .inl ⟨⟨_, (same_new hr' _).seq hS⟩, ?_⟩⟩
    refine for_list (xs := ns.map V.int) (fun i σ H' => (∃ k, σ = [some (.ref p), some (.int (m : Int)), some (.ref r), k]) ∧ Same H H' ∧ H' r = some (.lst (((ns.take i).flatMap fun x => octs x m).map V.int))) ⟨⟨none, rfl⟩, same_new hr' _, upd_same⟩ ?_ ?_ ?_
    · rintro i σ H' _ ⟨_, sm, _⟩
      exact sm.seq hS
    · rintro i x σ H' hx ⟨⟨k, rfl⟩, sm, hr1⟩
      obtain ⟨c, hc, rfl⟩ := int_at hx
      have hi := (List.getElem?_eq_some_iff.mp hc).1
      refine ⟨_, rfl, .inl ⟨rfl, _, SqL.of hr1⟩, _, rfl, _, rfl, c, (m : Int), rfl, by omega, by omega, fun p2 hp2 => ?_⟩
      have ne : r ≠ p2 := ne_of_none hr1 hp2
      rw [Int.toNat_natCast] at *
      refine ⟨r, p2, _, _, rfl, rfl, by rw [upd_ne ne]; exact hr1, upd_same, ?_, ⟨_, rfl⟩, same_set (sm.trans (same_new hp2 _)) hr' _, ?_⟩
      · rw [List.length_map, List.length_map, flat_len, List.length_take, octs_length, sizeLine_eq]
        have : m * min i ns.length ≤ 100 * 5000 := Nat.mul_le_mul (by omega) (by omega)
        omega
      · rw [upd_same, List.take_add_one, hc]
        show _ = some (HO.lst (((ns.take i ++ [c]).flatMap fun x => octs x m).map V.int))
        rw [List.flatMap_append, List.map_append]
        simp
    · rintro σ H' ⟨⟨k, rfl⟩, sm, hr1⟩
      rw [List.length_map, List.take_length] at hr1
      exact ⟨_, rfl, q r H' hr' sm hr1⟩
  · refine ⟨_, rfl, p, rfl, .inr ⟨⟨_, SqT.of (same_new hr' _ _ _ hS)⟩, ?_⟩⟩
    refine for_tup (xs := ns.map V.int) (fun i σ H' => (∃ k, σ = [some (.ref p), some (.int (m : Int)), some (.ref r), k]) ∧ Same H H' ∧ H' r = some (.lst (((ns.take i).flatMap fun x => octs x m).map V.int))) ⟨⟨none, rfl⟩, same_new hr' _, upd_same⟩ ?_ ?_ ?_
    · rintro i σ H' _ ⟨_, sm, _⟩
      exact SqT.of (sm _ _ hS)
    · rintro i x σ H' hx ⟨⟨k, rfl⟩, sm, hr1⟩
      obtain ⟨c, hc, rfl⟩ := int_at hx
      have hi := (List.getElem?_eq_some_iff.mp hc).1
      refine ⟨_, rfl, .inl ⟨rfl, _, SqL.of hr1⟩, _, rfl, _, rfl, c, (m : Int), rfl, by omega, by omega, fun p2 hp2 => ?_⟩
      have ne : r ≠ p2 := ne_of_none hr1 hp2
      rw [Int.toNat_natCast] at *
      refine ⟨r, p2, _, _, rfl, rfl, by rw [upd_ne ne]; exact hr1, upd_same, ?_, ⟨_, rfl⟩, same_set (sm.trans (same_new hp2 _)) hr' _, ?_⟩
      · rw [List.length_map, List.length_map, flat_len, List.length_take, octs_length, sizeLine_eq]
        have : m * min i ns.length ≤ 100 * 5000 := Nat.mul_le_mul (by omega) (by omega)
        omega
      · rw [upd_same, List.take_add_one, hc]
        show _ = some (HO.lst (((ns.take i ++ [c]).flatMap fun x => octs x m).map V.int))
        rw [List.flatMap_append, List.map_append]
        simp
    · rintro σ H' ⟨⟨k, rfl⟩, sm, hr1⟩
      rw [List.length_map, List.take_length] at hr1
      exact ⟨_, rfl, q r H' hr' sm hr1⟩

def sp_bits_octets (K : PySem.W.Frag) : Sp := fun vs H Q _ => ∃ (p t : Addr) (bs ah : List Int), vs = [.ref p, .ref t] ∧ SqL K H p (bs.map V.int) ∧ H t = some (.tup (ah.map V.int)) ∧ bs.length ≤ 5000 ∧ ah.length ≤ 5000 ∧
  ∀ r H', H r = none → Same H H' → H' r = some (.lst ((bs.flatMap (fun x => octs x 4) ++ ah.flatMap (fun x => octs x 2)).map V.int)) → Q (.ref r) H'
theorem ok_bits_octets (T : Tx K mg a) : FnOk P w K mg base CX0 3 a.f_bits_octets a.fd_bits_octets ["blocks", "ahead"] (sp_bits_octets K) := by
  refine T.D_bits_octets.F.ok sc_bits_octets (fun vs H Q E h => ?_) (fun cdv A outer s H vs Q E hr h => ?_)
  · obtain ⟨p, t, bs, ah, rfl, _⟩ := h
    rfl
  obtain ⟨p, t, bs, ah, rfl, hS, hT, hl1, hl2, q⟩ := h
  refine ⟨_, (pss_one (ps_ret (pe_op op_cat (pe_cD T.D_numbers_octets (ok_numbers_octets T) (by decide) hr pass0 rfl (pa_cons (pv 0) (pa_cons (pe_glob (v := .int 4) rfl T.c_BLOCK_OCTETS ⟨_, rfl⟩) pa_nil))) (pe_cD T.D_numbers_octets (ok_numbers_octets T) (by decide) hr pass0 rfl (pa_cons (pv 1) (pa_cons (pe_glob (v := .int 2) rfl T.c_COUNT_OCTETS ⟨_, rfl⟩) pa_nil)))))), ?_⟩
  refine ⟨_, rfl, p, bs, 4, rfl, .inl hS, hl1, by decide, fun r1 H1 hr1 sm1 x1 => ?_⟩
  refine ⟨_, rfl, t, ah, 2, rfl, .inr (sm1 _ _ hT), hl2, by decide, fun r2 H2 hr2 sm2 x2 => ?_⟩
  refine ⟨r1, r2, _, _, rfl, rfl, sm2 _ _ x1, x2, ?_, fun r hr' => ?_⟩
  · rw [List.length_map, List.length_map, flat_len, flat_len, sizeLine_eq]
    omega
  refine q r _ ((sm1.trans sm2).free hr') (sm1.trans (sm2.trans (same_new hr' _))) ?_
  rw [upd_same, List.map_append]

def sp_kept_row (K : PySem.W.Frag) (C1 C2 : Addr) : Sp := fun vs H Q E => ∃ (p : Addr) (ns : List Int), vs = [.ref p] ∧ SqL K H p (ns.map V.int) ∧
  ((ns.length ≤ 4096 ∧ IsBits ns ∧ ∀ r b t ah H', H b = none → Same H H' → H' r = some (.tup [.ref t, .ref b]) → H' t = some (.tup [.int (ns.length : Int), .ref ah]) → H' ah = some (.tup ((ahd ns (many ns.length)).map V.int)) → H' b = some (.lst ((packs ns).map V.int)) → Q (.ref r) H') ∨ (4096 < ns.length ∧ E (.ref C1) none H) ∨ (ns.length ≤ 4096 ∧ ¬ IsBits ns ∧ E (.ref C2) none H))
theorem ok_kept_row (T : Tx K mg a) : FnOk P w K mg base (CXC P w) 5 a.f_kept_row a.fd_kept_row ["bits"] (sp_kept_row K a.c_TooMany a.c_NoBit) := by
  refine T.D_kept_row.F.okC sc_kept_row (fun vs H Q E h => ?_) (fun cdv A outer s H vs Q E hr h => ?_)
  · obtain ⟨p, ns, rfl, _⟩ := h
    rfl
  obtain ⟨p, ns, rfl, hS, h⟩ := h
  refine ⟨_, (pss_cons (ps_set (i := 1) sc_kept_row.nd rfl (Or.inl rfl) (pe_cD T.D_packed (ok_packed T) (by decide) hr passC rfl (pa_cons (pv 0) pa_nil)))
    (pss_one (ps_ret (pe_tup (pa_cons (pe_tup (pa_cons (pe_callB call_len_seq rfl T.b_len Tw.bt_len (pa_cons (pv 0) pa_nil)) (pa_cons (pe_cD T.D_ahead_of (ok_ahead_of T) (by decide) hr pass0 rfl (pa_cons (pv 1) pa_nil)) pa_nil))) (pa_cons (pv 1) pa_nil)))))), ?_⟩
  rcases h with ⟨hl, hb, q⟩ | h | h
  rotate_left
  · exact ⟨_, rfl, p, ns, rfl, hS, .inr (.inl h)⟩
  · exact ⟨_, rfl, p, ns, rfl, hS, .inr (.inr h)⟩
  refine ⟨_, rfl, p, ns, rfl, hS, .inl ⟨hl, hb, fun b H1 hb0 sm1 h1 => ?_⟩⟩
  refine ⟨_, rfl, p, _, rfl, .inl (sm1.seq hS), _, rfl, b, packs ns, rfl, SqL.of h1, ?_, fun ah H2 hah sm2 h2 => ?_⟩
  · rw [packs_length]
    unfold many
    omega
  rw [aheads_packs hb] at h2
  have ern : (ns.map V.int).length = ns.length := List.length_map ..
  rw [ern]
  refine ⟨(by show 2 ≤ sizeLine; decide), fun t ht => ⟨_, rfl, (by show 2 ≤ sizeLine; decide), fun r hr' => ?_⟩⟩
  have s3 := same_new ht (.tup [.int (ns.length : Int), .ref ah])
  have s4 := same_new hr' (.tup [.ref t, .ref b])
  exact q r b t ah _ hb0 (sm1.trans (sm2.trans (s3.trans s4))) upd_same (s4 _ _ upd_same) (s4 _ _ (s3 _ _ h2)) (s4 _ _ (s3 _ _ (sm2 _ _ h1)))

def sp_row_octets (K : PySem.W.Frag) (C1 C2 : Addr) : Sp := fun vs H Q E => ∃ (p : Addr) (ns : List Int), vs = [.ref p] ∧ SqL K H p (ns.map V.int) ∧
  ((ns.length ≤ 4096 ∧ IsBits ns ∧ ∀ r H', H r = none → Same H H' → H' r = some (.lst ((rowO ns).map V.int)) → Q (.ref r) H') ∨ (4096 < ns.length ∧ E (.ref C1) none H) ∨ (ns.length ≤ 4096 ∧ ¬ IsBits ns ∧ E (.ref C2) none H))
theorem ok_row_octets (T : Tx K mg a) : FnOk P w K mg base (CXC P w) 6 a.f_row_octets a.fd_row_octets ["bits"] (sp_row_octets K a.c_TooMany a.c_NoBit) := by
  refine T.D_row_octets.F.okC sc_row_octets (fun vs H Q E h => ?_) (fun cdv A outer s H vs Q E hr h => ?_)
  · obtain ⟨p, ns, rfl, _⟩ := h
    rfl
  obtain ⟨p, ns, rfl, hS, h⟩ := h
  refine ⟨_, (pss_cons (ps_set (i := 1) sc_row_octets.nd rfl (Or.inl rfl) (pe_cD T.D_kept_row (ok_kept_row T) (by decide) hr passC rfl (pa_cons (pv 0) pa_nil)))
    (pss_one (ps_ret (pe_op op_cat (pe_op op_cat (pe_lst (pa_cons (pe_glob (v := .int 1) rfl T.c_ROW ⟨_, rfl⟩) pa_nil)) (pe_cD T.D_octets_of (ok_octets_of T) (by decide) hr pass0 rfl (pa_cons (pe_callB call_len_seq rfl T.b_len Tw.bt_len (pa_cons (pv 0) pa_nil)) (pa_cons (pe_glob (v := .int 2) rfl T.c_COUNT_OCTETS ⟨_, rfl⟩) pa_nil)))) (pe_cD T.D_bits_octets (ok_bits_octets T) (by decide) hr pass0 rfl (pa_cons (pe_ix ix_tup (pv 1) pe_int (fun _ _ => rfl)) (pa_cons (pe_ix ix_tup (pe_ix ix_tup (pv 1) pe_int (fun _ _ => rfl)) pe_int (fun _ _ => rfl)) pa_nil))))))), ?_⟩
  rcases h with ⟨hl, hb, q⟩ | h | h
  rotate_left
  · exact ⟨_, rfl, p, ns, rfl, hS, .inr (.inl h)⟩
  · exact ⟨_, rfl, p, ns, rfl, hS, .inr (.inr h)⟩
  have hm : many ns.length ≤ 128 := by
    unfold many
    omega
  refine ⟨_, rfl, p, ns, rfl, hS, .inl ⟨hl, hb, fun kr b t ah H1 hb0 sm1 h1 h2 h3 h4 => ?_⟩⟩
  refine ⟨(by show 1 ≤ sizeLine; decide), fun l1 hl1 => ?_⟩
  have s1 := same_new hl1 (.lst [.int 1])
  refine ⟨_, rfl, p, _, rfl, .inl ((sm1.trans s1).seq hS), _, _, rfl, by omega, by decide, fun l2 hl2 => ?_⟩
  have ern : (ns.map V.int).length = ns.length := List.length_map ..
  rw [ern, show ((2 : Int)).toNat = 2 from rfl]
  have s2 := same_new hl2 (.lst ((octs (ns.length : Int) 2).map V.int))
  refine ⟨l1, l2, _, _, rfl, rfl, s2 _ _ upd_same, upd_same, ?_, fun l3 hl3 => ?_⟩
  · rw [List.length_map, octs_length, sizeLine_eq]
    show 1 + 2 ≤ _
    decide
  have s3 := same_new hl3 (.lst ([.int 1] ++ (octs (ns.length : Int) 2).map V.int))
  have s13 := s1.trans (s2.trans s3)
  refine ⟨_, rfl, kr, _, _, _, rfl, rfl, SqT.of (s13 _ _ h1), rfl, _, rfl, kr, _, _, _, rfl, rfl, SqT.of (s13 _ _ h1), rfl, t, _, _, _, rfl, rfl, SqT.of (s13 _ _ h2), rfl, b, ah, packs ns, ahd ns (many ns.length), rfl, SqL.of (s13 _ _ h4), s13 _ _ h3, ?_, ?_, fun l4 H4 hl4 sm4 x4 => ?_⟩
  · rw [packs_length]
    omega
  · rw [ahd_length]
    omega
  refine ⟨l3, l4, _, _, rfl, rfl, sm4 _ _ upd_same, x4, ?_, fun r hr' => ?_⟩
  · rw [List.length_append, List.length_map, List.length_map, octs_length, List.length_append, flat_len, flat_len, packs_length, ahd_length, sizeLine_eq]
    show 1 + 2 + _ ≤ _
    omega
  have sA := sm1.trans (s13.trans sm4)
  refine q r _ (sA.free hr') (sA.trans (same_new hr' _)) ?_
  rw [upd_same]
  unfold rowO
  rw [List.map_append (l₁ := [1] ++ _), List.map_append]
  rfl

def sp_unpacked (K : PySem.W.Frag) : Sp := fun vs H Q _ => ∃ (p : Addr) (bs : List Int) (m : Nat), vs = [.ref p, .int (m : Int)] ∧ SqL K H p (bs.map V.int) ∧ m ≤ 32 * bs.length ∧ bs.length ≤ 512 ∧
  ∀ r H', H r = none → Same H H' → H' r = some (.lst (((unp bs).take m).map V.int)) → Q (.ref r) H'
theorem ok_unpacked (T : Tx K mg a) : FnOk P w K mg base CX0 3 a.f_unpacked a.fd_unpacked ["blocks", "many"] (sp_unpacked K) := by
  refine T.D_unpacked.F.ok sc_unpacked (fun vs H Q E h => ?_) (fun cdv A outer s H vs Q E hr h => ?_)
  · obtain ⟨p, ns, m, rfl, _⟩ := h
    rfl
  obtain ⟨p, bs, m, rfl, hS, hm, hl, q⟩ := h
  refine ⟨_, (pss_cons (ps_if (PW.pt (pw_or (pt_cmpR op_lt (pv 1) pe_int (nomark _)) (pw_or1 (pt_cmpR op_gt (pv 1) (pe_op op_mul (pe_glob (v := .int 32) rfl T.c_BLOCK_BITS ⟨_, rfl⟩) (pe_callB call_len_seq rfl T.b_len Tw.bt_len (pa_cons (pv 0) pa_nil))) (nomark _))))) (pss_one ps_never) pss_nil)
    (pss_cons (ps_set (i := 2) sc_unpacked.nd rfl (Or.inl rfl) (pe_lst pa_nil))
    (pss_cons (ps_for PassesOwn.never rfl (pi_list (pv 0)) (pg_name (i := 3) sc_unpacked.nd rfl (Or.inl rfl)) (pss_one (ps_expr (pe_bm PySem.F.plainAttrs_list PySem.F.slot_list_extend PySem.F.type_list_extend mt_extend (pv 2) (pa_cons (pe_cD T.D_bits_of (ok_bits_of T) (by decide) hr pass0 rfl (pa_cons (pv 3) (pa_cons (pe_glob (v := .int 32) rfl T.c_BLOCK_BITS ⟨_, rfl⟩) pa_nil))) pa_nil)))))
    (pss_one (ps_ret (pe_slice sl_list (pv 2) po_none (po_some (pv 1)))))))), ?_⟩
  refine ⟨_, rfl, _, _, rfl, rfl, _, rfl, ite2 (fun c => ?_) fun _ => ?_⟩
  · have c := of_decide_eq_true c
    omega
  refine ⟨_, rfl, _, rfl, p, _, rfl, .inl hS, _, _, rfl, rfl, .inl ⟨by decide, by decide⟩, _, _, rfl, rfl, _, rfl, ite2 (fun c => ?_) fun _ => ?_⟩
  · have c := of_decide_eq_true c
    rw [List.length_map] at c
    omega
  refine ⟨(by show 0 ≤ sizeLine; decide), fun r hr' => ?_⟩
  have nr : ∀ {x : Addr} {u : HO}, H x = some u → x ≠ r := fun h => ne_of_none h hr'
  refine ⟨_, rfl, p, rfl, ⟨_, (same_new hr' _).seq hS⟩, ?_⟩
  refine for_list (xs := bs.map V.int) (fun i σ H' => (∃ k, σ = [some (.ref p), some (.int (m : Int)), some (.ref r), k]) ∧ Same H H' ∧ H' r = some (.lst ((unp (bs.take i)).map V.int))) ?_ ?_ ?_ ?_
  · exact ⟨⟨none, rfl⟩, same_new hr' _, upd_same⟩
  · rintro i σ H' _ ⟨_, sm, _⟩
    exact sm.seq hS
  · rintro i x σ H' hx ⟨⟨k, rfl⟩, sm, hr1⟩
    obtain ⟨c, hc, rfl⟩ := int_at hx
    have hi := (List.getElem?_eq_some_iff.mp hc).1
    refine ⟨_, rfl, .inl ⟨rfl, _, SqL.of hr1⟩, _, rfl, c, 32, rfl, by decide, by decide, fun p2 hp2 => ?_⟩
    have ne : r ≠ p2 := ne_of_none hr1 hp2
    refine ⟨r, p2, _, _, rfl, rfl, by rw [upd_ne ne]; exact hr1, upd_same, ?_, ⟨_, rfl⟩, same_set (sm.trans (same_new hp2 _)) hr' _, ?_⟩
    · rw [List.length_map, List.length_map, unp_length, List.length_take]
      show 32 * min i bs.length + (bits c 32).length ≤ sizeLine
      rw [bits_length, sizeLine_eq]
      omega
    · rw [upd_same, List.take_add_one, hc]
      show _ = some (HO.lst ((unp (bs.take i ++ [c])).map V.int))
      rw [unp_snoc, List.map_append]
      rfl
  · rintro σ H' ⟨⟨k, rfl⟩, sm, hr1⟩
    rw [List.length_map, List.take_length] at hr1
    refine ⟨_, rfl, _, rfl, _, rfl, r, _, rfl, SqL.of hr1, fun r2 hr2 => ?_⟩
    rw [cut_to]
    exact q r2 _ (sm.free hr2) (sm.trans (same_new hr2 _)) upd_same

def sp_cell_at (K : PySem.W.Frag) : Sp := fun vs H Q _ => ∃ (p : Addr) (zs : List Int) (k : Nat), vs = [.ref p, .int (k : Int)] ∧ SqL K H p (zs.map V.int) ∧ Q (.int ((zs[k]?).getD 0)) H
theorem ok_law_cell_at (T : Tx K mg a) : FnOk P w K mg base CX0 1 a.f_law_cell_at a.fd_law_cell_at ["_law_script", "_law_k"] (sp_cell_at K) := by
  refine T.D_law_cell_at.F.ok sc_law_cell_at (fun vs H Q E h => ?_) (fun cdv A outer s H vs Q E hr h => ?_)
  · obtain ⟨p, zs, k, rfl, _⟩ := h
    rfl
  obtain ⟨p, zs, k, rfl, hS, q⟩ := h
  refine ⟨_, (pss_cons (ps_if (pt_cmpR op_lt (pv 1) (pe_callB call_len_seq rfl T.b_len Tw.bt_len (pa_cons (pv 0) pa_nil)) (nomark _)) (pss_one (ps_ret (pe_ix ix_list (pv 0) (pv 1) (fun _ _ => rfl)))) pss_nil)
    (pss_one (ps_ret pe_int))), ?_⟩
  refine ⟨_, rfl, _, rfl, p, _, rfl, .inl hS, _, _, rfl, rfl, _, rfl, ite2 (fun c => ?_) fun c => ?_⟩
  · have c := of_decide_eq_true c
    rw [List.length_map] at c
    have hk : zs[k]? = some zs[k] := List.getElem?_eq_getElem (by omega)
    rw [hk] at q
    exact ⟨_, rfl, _, rfl, p, _, _, _, rfl, rfl, hS, atI_int hk, q⟩
  · have c : ¬ (k : Int) < ((zs.map V.int).length : Int) := fun z => c (decide_eq_true z)
    rw [List.length_map] at c
    rw [List.getElem?_eq_none (by omega)] at q
    exact q

def sp_whole : Sp := fun vs H Q _ => ∃ i : Int, vs = [.int i] ∧ Q (.bl true) H
theorem ok_law_whole (T : Tx K mg a) : FnOk P w K mg base CX0 1 a.f_law_whole a.fd_law_whole ["_law_found"] sp_whole := by
  refine T.D_law_whole.F.ok sc_law_whole (fun vs H Q E h => ?_) (fun cdv A outer s H vs Q E hr h => ?_)
  · obtain ⟨i, rfl, _⟩ := h
    rfl
  obtain ⟨i, rfl, q⟩ := h
  refine ⟨_, (pss_one (ps_ret (pe_and (pe_callB call_isi rfl T.b_isinstance Tw.bt_isinstance (pa_cons (pv 0) (pa_cons (pe_bltn (v := .ty "int") rfl T.b_int Tw.bt_int rfl) pa_nil))) (pe_one (pe_not (pe_callB call_isi rfl T.b_isinstance Tw.bt_isinstance (pa_cons (pv 0) (pa_cons (pe_bltn (v := .ty "bool") rfl T.b_bool Tw.bt_bool rfl) pa_nil)))))))), ?_⟩
  refine ⟨_, rfl, _, "int", _, true, rfl, .int i, rfl, true, rfl, iteT ?_⟩
  exact ⟨_, rfl, _, "bool", _, false, rfl, .int i, rfl, false, rfl, q⟩


theorem five {σ : St} (h : σ.length = 5) : ∃ a b c d e, σ = [a, b, c, d, e] := by
  match σ, h with
  | [a, b, c, d, e], _ => exact ⟨a, b, c, d, e, rfl⟩
theorem comp_rngE {lo : Int} {n : Nat} {cap : L2.St} {tt : TT} {te : TE} {Qf : Addr → Hp → Prop} {H : Hp} (f : Nat → Int) (G : Nat → Prop) (hl : n < sizeLine)
    (htt : ∀ (z : Int) (H' : Hp) (Q : Bool → Hp → Prop), Q true H' → tt (some (.int z) :: cap) H' Q) (hte : ∀ (i : Nat) (H' : Hp) (Q : VK), i < n → Same H H' → (G i → ∀ H'', Same H' H'' → Q (.int (f i)) H'') → te (some (.int (lo + i)) :: cap) H' Q)
    (q : (∀ i < n, G i) → ∀ D X, H D = none → Same H X → X D = some (.lst (((List.range n).map f).map V.int)) → Qf D X) : rdComp (Itr lo n) cap tt te Qf H := by
  intro D hD
  refine ⟨fun i m ys H1 => m = n - i ∧ i ≤ n ∧ ys = ((List.range i).map f).map V.int ∧ Same H H1 ∧ H1 D = some (.lst ys) ∧ ∀ j < i, G j, ⟨_, rfl, Nat.zero_le _, rfl, same_new hD _, upd_same, fun j hj => absurd hj (Nat.not_lt_zero _)⟩, ?_⟩
  rintro i m ys H1 ⟨rfl, hi, rfl, sm, hD1, hG⟩
  by_cases hlt : i < n
  · refine .inr ⟨hlt, fun v H2 y => ?_⟩
    obtain ⟨rfl, rfl⟩ := y
    refine htt _ _ _ ?_
    rw [if_pos rfl]
    refine hte i _ _ hlt sm fun gi H3 s3 => ⟨s3 _ _ hD1, ?_, n - (i + 1), by omega, rfl, hlt, ?_, same_set (sm.trans s3) hD _, upd_same, fun j hj => ?_⟩
    · rw [List.length_map, List.length_map, List.length_range]
      omega
    · rw [List.range_succ, List.map_append, List.map_append]
      rfl
    · rcases Nat.lt_succ_iff_lt_or_eq.mp hj with z | z
      · exact hG j z
      · rw [z]
        exact gi
  · have e : i = n := by omega
    subst e
    exact .inl ⟨Nat.le_refl _, q hG D H1 hD sm hD1⟩
/-- a number in octets, or a refusal -/
def sp_number_at (cN : Addr) : Sp := fun vs H Q E => ∃ (p : Addr) (os : List Int) (at0 sz : Nat), vs = [.ref p, .int (at0 : Int), .int (sz : Int)] ∧ H p = some (.lst (os.map V.int)) ∧
  (at0 + sz ≤ os.length → ∀ H', Same H H' → Q (.int (valO ((os.drop at0).take sz))) H') ∧ (os.length < at0 + sz → ∀ H', Same H H' → E (.ref cN) none H')
theorem ok_number_at (T : Tx K mg a) : FnOk P w K mg base (CXC P w) 2 a.f_number_at a.fd_number_at ["octets", "at", "size"] (sp_number_at a.c_NoOctets) := by
  refine T.D_number_at.F.okC sc_number_at (fun vs H Q E h => ?_) (fun cdv A outer s H vs Q E hr h => ?_)
  · obtain ⟨p, os, at0, sz, rfl, _⟩ := h
    rfl
  obtain ⟨p, os, at0, sz, rfl, hp, q, qE⟩ := h
  refine ⟨_, (pss_cons (ps_if (pt_cmpR op_gt (pe_op op_add (pv 1) (pv 2)) (pe_callB call_len_seq rfl T.b_len Tw.bt_len (pa_cons (pv 0) pa_nil)) (nomark _)) (pss_one (ps_raiseC T.x_NoOctets rfl (pa_cons pe_str pa_nil))) pss_nil)
    (pss_one (ps_ret (pe_cD T.D_number_of (ok_number_of T) (by decide) hr pass0 rfl (pa_cons (pe_slice sl_list (pv 0) (po_some (pv 1)) (po_some (pe_op op_add (pv 1) (pv 2)))) pa_nil))))), ?_⟩
  have ern : (os.map V.int).length = os.length := List.length_map ..
  refine ⟨_, rfl, _, rfl, _, _, rfl, rfl, _, rfl, p, _, rfl, .inl (SqL.of hp), _, _, rfl, rfl, _, rfl, ite2 (fun c => ?_) fun c => ?_⟩
  · have c : (((os.map V.int).length : Nat) : Int) < (at0 : Int) + (sz : Int) := of_decide_eq_true c
    exact ⟨(by show 1 ≤ sizeLine; decide), qE (by omega) _ (.refl _)⟩
  have c : ¬ ((((os.map V.int).length : Nat) : Int) < (at0 : Int) + (sz : Int)) := fun z => c (decide_eq_true z)
  refine ⟨_, rfl, _, rfl, _, rfl, _, rfl, _, rfl, _, _, rfl, rfl, _, rfl, p, _, rfl, SqL.of hp, fun c hc => ?_⟩
  have e : cutV (os.map V.int) (some (at0 : Int)) (some ((at0 : Int) + (sz : Int))) = ((os.drop at0).take sz).map V.int := by
    rw [show (at0 : Int) + (sz : Int) = ((at0 + sz : Nat) : Int) by omega, cut_nat, Nat.add_sub_cancel_left]
  rw [e]
  exact ⟨c, _, rfl, SqL.of upd_same, q (by omega) _ (same_new hc _)⟩
def sp_numbers_at (cN : Addr) : Sp := fun vs H Q E => ∃ (p : Addr) (os : List Int) (at0 sz m : Nat), vs = [.ref p, .int (at0 : Int), .int (sz : Int), .int (m : Int)] ∧ H p = some (.lst (os.map V.int)) ∧ m ≤ 5000 ∧ 0 < sz ∧ sz ≤ 100 ∧
  (at0 + sz * m ≤ os.length ∨ m = 0 → ∀ r H', H r = none → Same H H' → H' r = some (.lst (((List.range m).map fun k => valO ((os.drop (at0 + sz * k)).take sz)).map V.int)) → Q (.ref r) H') ∧
  (os.length < at0 + sz * m → 0 < m → ∀ H', Same H H' → E (.ref cN) none H')
theorem ok_numbers_at (T : Tx K mg a) : FnOk P w K mg base (CXC P w) 3 a.f_numbers_at a.fd_numbers_at ["octets", "at", "size", "many"] (sp_numbers_at a.c_NoOctets) := by
  refine T.D_numbers_at.F.okC sc_numbers_at (fun vs H Q E h => ?_) (fun cdv A outer s H vs Q E hr h => ?_)
  · obtain ⟨p, os, at0, sz, m, rfl, _⟩ := h
    rfl
  obtain ⟨p, os, at0, sz, m, rfl, hp, hm, hs0, hsz, q, qE⟩ := h
  refine ⟨_, (pss_one (ps_ret (pe_compR rfl (CompOk.three (j := 2) (k := 0) (l := 1) (by decide) (by decide) (by decide) rfl rfl rfl (Or.inl rfl) (Or.inl rfl) (Or.inl rfl) rfl rfl rfl rfl (Or.inl rfl) (Or.inl rfl) (Or.inl rfl)) (pi_range1 rfl T.b_range (pa_cons (pv 3) pa_nil)) (fun _ _ _ _ => pts_nil) (fun _ _ _ _ _ _ _ en => (pe_cD T.D_number_at (ok_number_at T) (by decide) hr (comp_pass en fun _ _ z => z) rfl (pa_cons (pv 2) (pa_cons (pe_op op_add (pv 3) (pe_op op_mul (pv 1) (pv 0))) (pa_cons (pv 1) pa_nil)))))))), ?_⟩
  refine ⟨_, rfl, (m : Int), rfl, by omega, by omega, ?_⟩
  rw [Int.toNat_natCast]
  refine comp_rngE (fun k => valO ((os.drop (at0 + sz * k)).take sz)) (fun k => at0 + sz * k + sz ≤ os.length) (by rw [sizeLine_eq]; omega) (fun _ _ _ q => q) (fun i H' Q hi sm qq => ?_) fun hG D X hD sX xD => q ?_ D X hD sX xD
  · refine ⟨_, rfl, _, rfl, _, rfl, _, rfl, _, _, rfl, rfl, .inl ⟨by omega, by omega⟩, _, _, rfl, rfl, _, rfl, p, os, at0 + sz * i, sz, ?_, sm _ _ hp, qq, fun z H'' s2 => qE ?_ (by omega) H'' (sm.trans s2)⟩
    · show [V.ref p, V.int ((at0 : Int) + (sz : Int) * (0 + (i : Int))), V.int (sz : Int)] = _
      rw [Int.zero_add, Int.natCast_add, Int.natCast_mul]
    · have : sz * (i + 1) ≤ sz * m := Nat.mul_le_mul_left _ hi
      rw [Nat.mul_succ] at this
      omega
  · rcases Nat.eq_zero_or_pos m with z | z
    · exact .inr z
    · have h1 := hG (m - 1) (by omega)
      have h2 : sz * (m - 1 + 1) = sz * (m - 1) + sz := Nat.mul_succ ..
      rw [show m - 1 + 1 = m by omega] at h2
      exact .inl (by omega)
def sp_block_total : Sp := fun vs H Q _ => ∃ m : Nat, vs = [.int (m : Int)] ∧ Q (.int ((many m : Nat) : Int)) H
theorem ok_block_total (T : Tx K mg a) : FnOk P w K mg base CX0 1 a.f_block_total a.fd_block_total ["many"] sp_block_total := by
  refine T.D_block_total.F.ok sc_block_total (fun vs H Q E h => ?_) (fun cdv A outer s H vs Q E hr h => ?_)
  · obtain ⟨m, rfl, _⟩ := h
    rfl
  obtain ⟨m, rfl, q⟩ := h
  refine ⟨_, (pss_one (ps_ret (pe_op op_fdiv (pe_op op_sub (pe_op op_add (pv 0) (pe_glob (v := .int 32) rfl T.c_BLOCK_BITS ⟨_, rfl⟩)) pe_int) (pe_glob (v := .int 32) rfl T.c_BLOCK_BITS ⟨_, rfl⟩)))), ?_⟩
  refine ⟨_, rfl, _, _, rfl, rfl, _, _, rfl, rfl, _, _, rfl, rfl, ⟨by decide, by decide⟩, ?_⟩
  have e : ((m : Int) + 32 - 1) / 32 = ((many m : Nat) : Int) := by
    unfold many
    omega
  rw [← e] at q
  exact q
def numsO (os : List Int) (n : Nat) : List Int := (List.range (many n)).map fun k => valO ((os.drop (3 + 4 * k)).take 4)
def toldN (os : List Int) : Nat := (valO ((os.drop 1).take 2)).toNat
def toldB (os : List Int) : List Int := (unp (numsO os (toldN os))).take (toldN os)
def ToldOk (os : List Int) : Prop := 3 ≤ os.length ∧ 3 + 4 * many (toldN os) ≤ os.length
def sp_bits_at (cN : Addr) : Sp := fun vs H Q E => ∃ (p : Addr) (os : List Int) (n : Nat), vs = [.ref p, .int 3, .int (n : Int)] ∧ H p = some (.lst (os.map V.int)) ∧ n ≤ 65535 ∧ 3 ≤ os.length ∧ os.length ≤ 2000 ∧
  (3 + 4 * many n ≤ os.length → ∀ r H', H r = none → Same H H' → H' r = some (.lst (((unp (numsO os n)).take n).map V.int)) → Q (.ref r) H') ∧ (os.length < 3 + 4 * many n → ∀ H', Same H H' → E (.ref cN) none H')
theorem ok_bits_at (T : Tx K mg a) : FnOk P w K mg base (CXC P w) 4 a.f_bits_at a.fd_bits_at ["octets", "at", "many"] (sp_bits_at a.c_NoOctets) := by
  refine T.D_bits_at.F.okC sc_bits_at (fun vs H Q E h => ?_) (fun cdv A outer s H vs Q E hr h => ?_)
  · obtain ⟨p, os, n, rfl, _⟩ := h
    rfl
  obtain ⟨p, os, n, rfl, hp, hn, h3, hl, q, qE⟩ := h
  refine ⟨_, (pss_one (ps_ret (pe_cD T.D_unpacked (ok_unpacked T) (by decide) hr pass0 rfl (pa_cons (pe_cD T.D_numbers_at (ok_numbers_at T) (by decide) hr passC rfl (pa_cons (pv 0) (pa_cons (pv 1) (pa_cons (pe_glob (v := .int 4) rfl T.c_BLOCK_OCTETS ⟨_, rfl⟩) (pa_cons (pe_cD T.D_block_total (ok_block_total T) (by decide) hr pass0 rfl (pa_cons (pv 2) pa_nil)) pa_nil))))) (pa_cons (pv 2) pa_nil))))), ?_⟩
  have hm : many n ≤ 2048 := by
    unfold many
    omega
  have hmm : n ≤ 32 * many n := by
    unfold many
    omega
  have nl : (numsO os n).length = many n := by
    unfold numsO
    rw [List.length_map, List.length_range]
  refine ⟨_, rfl, _, rfl, _, rfl, n, rfl, p, os, 3, 4, many n, rfl, hp, by omega, by decide, by decide, fun hok r1 H1 hr1 s1 x1 => ?_, fun hbad _ H' s1 => qE hbad H' s1⟩
  have hok' : 3 + 4 * many n ≤ os.length := by
    rcases hok with z | z
    · exact z
    · rw [z]
      omega
  refine ⟨_, rfl, r1, numsO os n, n, rfl, SqL.of x1, by rw [nl]; exact hmm, by rw [nl]; omega, fun r H2 hr2 s2 x2 => q hok' r H2 (s1.free hr2) (s1.trans s2) x2⟩
theorem valO_two {xs : List Int} (h : ∀ y ∈ xs, 0 ≤ y ∧ y ≤ 255) (hl : xs.length ≤ 2) : 0 ≤ valO xs ∧ valO xs ≤ 65535 := by
  match xs, hl with
  | [], _ => exact ⟨by decide, by decide⟩
  | [x], _ =>
    have h1 := h x (by simp)
    show 0 ≤ 256 * 0 + x ∧ 256 * 0 + x ≤ 65535
    omega
  | [x, y], _ =>
    have h1 := h x (by simp)
    have h2 := h y (by simp)
    show 0 ≤ 256 * (256 * 0 + y) + x ∧ 256 * (256 * 0 + y) + x ≤ 65535
    omega
def sp_told_bits (cN : Addr) : Sp := fun vs H Q E => ∃ (p : Addr) (os : List Int), vs = [.ref p] ∧ H p = some (.lst (os.map V.int)) ∧ os.length ≤ 2000 ∧ (∀ y ∈ os, 0 ≤ y ∧ y ≤ 255) ∧
  (ToldOk os → ∀ r H', H r = none → Same H H' → H' r = some (.lst ((toldB os).map V.int)) → Q (.ref r) H') ∧ (¬ ToldOk os → ∀ H', Same H H' → E (.ref cN) none H')
theorem ok_told_bits (T : Tx K mg a) : FnOk P w K mg base (CXC P w) 5 a.f_told_bits a.fd_told_bits ["octets"] (sp_told_bits a.c_NoOctets) := by
  refine T.D_told_bits.F.okC sc_told_bits (fun vs H Q E h => ?_) (fun cdv A outer s H vs Q E hr h => ?_)
  · obtain ⟨p, os, rfl, _⟩ := h
    rfl
  obtain ⟨p, os, rfl, hp, hl, hall, q, qE⟩ := h
  refine ⟨_, (pss_one (ps_ret (pe_cD T.D_bits_at (ok_bits_at T) (by decide) hr passC rfl (pa_cons (pv 0) (pa_cons (pe_op op_add pe_int (pe_glob (v := .int 2) rfl T.c_COUNT_OCTETS ⟨_, rfl⟩)) (pa_cons (pe_cD T.D_number_at (ok_number_at T) (by decide) hr passC rfl (pa_cons (pv 0) (pa_cons pe_int (pa_cons (pe_glob (v := .int 2) rfl T.c_COUNT_OCTETS ⟨_, rfl⟩) pa_nil)))) pa_nil)))))), ?_⟩
  have hv : 0 ≤ valO ((os.drop 1).take 2) ∧ valO ((os.drop 1).take 2) ≤ 65535 := valO_two (fun y hy => hall y (List.mem_of_mem_drop (List.mem_of_mem_take hy))) (by rw [List.length_take]; omega)
  have en : valO ((os.drop 1).take 2) = ((toldN os : Nat) : Int) := by
    unfold toldN
    omega
  refine ⟨_, rfl, _, _, rfl, rfl, _, rfl, p, os, 1, 2, rfl, hp, fun h3 H1 s1 => ?_, fun hbad H' s1 => qE (fun z => ?_) H' s1⟩
  · rw [en]
    exact ⟨p, os, toldN os, rfl, s1 _ _ hp, by omega, by omega, hl, fun hok r H2 hr2 s2 x2 => q ⟨by omega, hok⟩ r H2 (s1.free hr2) (s1.trans s2) x2, fun hbad H2 s2 => qE (fun z => by have := z.2; omega) H2 (s1.trans s2)⟩
  · have := z.1
    omega
def OctOk (os : List Int) : Prop := ∀ y ∈ os, 0 ≤ y ∧ y ≤ 255
def sp_check_octets (cN : Addr) : Sp := fun vs H Q E => ∃ (p : Addr) (os : List Int), vs = [.ref p] ∧ H p = some (.lst (os.map V.int)) ∧ (OctOk os → Q .non H) ∧ (¬ OctOk os → E (.ref cN) none H)
theorem ok_check_octets (T : Tx K mg a) : FnOk P w K mg base (CX1 P w) 1 a.f_check_octets a.fd_check_octets ["octets"] (sp_check_octets a.c_NoOctets) := by
  refine T.D_check_octets.F.ok1 sc_check_octets (fun vs H Q E h => ?_) (fun cdv A outer s H vs Q E hr h => ?_)
  · obtain ⟨p, os, rfl, _⟩ := h
    rfl
  obtain ⟨p, os, rfl, hp, q, qE⟩ := h
  refine ⟨_, (pss_one (ps_for passOwn rfl (pi_list (pv 0)) (pg_name (i := 1) sc_check_octets.nd rfl (Or.inl rfl)) (pss_one (ps_if (pt_not (pt_chain op_le op_le pe_int (pv 1) pe_int)) (pss_one (ps_raise T.x_NoOctets rfl (pa_cons pe_str pa_nil))) pss_nil)))), ?_⟩
  refine ⟨_, rfl, p, rfl, ⟨_, SqL.of hp⟩, ?_⟩
  refine for_list (xs := os.map V.int) (fun i σ X => X = H ∧ (∃ k, σ = [some (.ref p), k]) ∧ ∀ y ∈ os.take i, 0 ≤ y ∧ y ≤ 255) ⟨rfl, ⟨none, rfl⟩, fun y hy => by simp at hy⟩ ?_ ?_ ?_
  · rintro i σ X _ ⟨rfl, _⟩
    exact SqL.of hp
  · rintro i x σ X hx ⟨rfl, ⟨k, rfl⟩, hpre⟩
    obtain ⟨z, hz, rfl⟩ := int_at hx
    have bad : ¬ (0 ≤ z ∧ z ≤ 255) → E (.ref a.c_NoOctets) none X := fun n => qE fun g => n (g z (List.mem_of_getElem? hz))
    refine ⟨_, rfl, _, _, rfl, rfl, _, rfl, ite2 (fun c => ?_) fun c => ?_⟩
    · have c : (0 : Int) ≤ z := of_decide_eq_true c
      refine ⟨_, _, rfl, rfl, _, rfl, ?_⟩
      by_cases c2 : z ≤ 255
      · rw [decide_eq_true c2]
        refine iteF ⟨rfl, ⟨_, rfl⟩, fun y hy => ?_⟩
        rw [List.take_add_one, hz] at hy
        rcases List.mem_append.mp hy with hy | hy
        · exact hpre y hy
        · have : y = z := by simpa using hy
          omega
      · rw [decide_eq_false c2]
        exact iteT ⟨(by show 1 ≤ sizeLine; decide), bad fun n => c2 n.2⟩
    · have c : ¬ (0 : Int) ≤ z := fun n => c (decide_eq_true n)
      exact ⟨_, rfl, iteT ⟨(by show 1 ≤ sizeLine; decide), bad fun n => c n.1⟩⟩
  · rintro σ X ⟨rfl, _, hpre⟩
    exact q fun y hy => hpre y (by rw [List.length_map, List.take_length]; exact hy)
def GoodO (os : List Int) : Prop := OctOk os ∧ ToldOk os ∧ (toldB os).length ≤ 4096 ∧ rowO (toldB os) = os
def sp_read_as (a : Ad) : Sp := fun vs H Q E => ∃ (p : Addr) (os : List Int), vs = [.ref p, .ref a.f_told_bits, .ref a.f_row_octets] ∧ H p = some (.lst (os.map V.int)) ∧ os.length ≤ 2000 ∧
  (GoodO os → ∀ r H', H r = none → Same H H' → H' r = some (.lst ((toldB os).map V.int)) → Q (.ref r) H') ∧ (¬ GoodO os → ∀ H', Same H H' → E (.ref a.c_NoOctets) none H')
theorem ok_read_as (T : Tx K mg a) : FnOk P w K mg base (CX1 P w) 7 a.f_read_as a.fd_read_as ["octets", "tell", "write"] (sp_read_as a) := by
  refine T.D_read_as.F.ok1 sc_read_as (fun vs H Q E h => ?_) (fun cdv A outer s H vs Q E hr h => ?_)
  · obtain ⟨p, os, rfl, _⟩ := h
    rfl
  obtain ⟨p, os, rfl, hp, hl, q, qE⟩ := h
  refine ⟨_, (pss_cons (ps_expr (pe_cD T.D_check_octets (ok_check_octets T) (by decide) hr pass1 rfl (pa_cons (pv 0) pa_nil)))
    (pss_cons (ps_tryC rfl rfl (fun _ _ => (pss_cons (ps_set (i := 3) sc_read_as.nd rfl (Or.inl rfl) (pe_callV (ok_told_bits T) (by decide) hr passTC (i := 1) rfl T.D_told_bits.F.kp T.D_told_bits.b (pa_cons (pv 0) pa_nil)))
    (pss_one (ps_set (i := 4) sc_read_as.nd rfl (Or.inl rfl) (pe_callV (ok_row_octets T) (by decide) hr passTC (i := 2) rfl T.D_row_octets.F.kp T.D_row_octets.b (pa_cons (pv 3) pa_nil)))))) (phc_raise T.x_WoodError T.k_WoodError rfl T.x_NoOctets rfl (fun _ => (pa_cons pe_str pa_nil)) phc_nil))
    (pss_cons (ps_if (pt_cmpR (op_neD hr.units) (pv 4) (pv 0) (nomark _)) (pss_one (ps_raise T.x_NoOctets rfl (pa_cons pe_str pa_nil))) pss_nil)
    (pss_one (ps_ret (pv 3)))))), ?_⟩
  refine ⟨_, rfl, p, os, rfl, hp, fun hall => ?_, fun n => qE (fun g => n g.1) H (.refl _)⟩
  refine ⟨rfl, _, rfl, p, os, rfl, hp, hl, hall, fun hok r H1 hr1 s1 x1 => ?_, fun hbad H' s1 => ?_⟩
  rotate_left
  · refine ⟨_, rfl, fun σ' hσ => ⟨true, T.i_NoOctets_WoodError, ?_⟩⟩
    rw [if_pos rfl]
    intro ea hea
    exact ⟨(by show 1 ≤ sizeLine; decide), upd_same, qE (fun g => hbad g.2.1) _ (s1.trans (same_new hea _))⟩
  have hbits : IsBits (toldB os) := fun y hy => isBits_unp _ y (List.mem_of_mem_take hy)
  by_cases hlen : (toldB os).length ≤ 4096
  rotate_left
  · refine ⟨rfl, _, rfl, r, toldB os, rfl, SqL.of x1, .inr (.inl ⟨by omega, _, rfl, fun σ' hσ => ⟨true, T.i_TooMany_WoodError, ?_⟩⟩)⟩
    rw [if_pos rfl]
    intro ea hea
    exact ⟨(by show 1 ≤ sizeLine; decide), upd_same, qE (fun g => hlen g.2.2.1) _ (s1.trans (same_new hea _))⟩
  refine ⟨rfl, _, rfl, r, toldB os, rfl, SqL.of x1, .inl ⟨hlen, hbits, fun r2 H2 hr2 s2 x2 => ?_⟩⟩
  refine ⟨_, rfl, _, rfl, .inl ⟨r2, p, _, _, rfl, rfl, SqL.of x2, SqL.of (s2 _ _ (s1 _ _ hp)), ?_⟩⟩
  by_cases hw : rowO (toldB os) = os
  · rw [decide_eq_true hw]
    exact ⟨_, rfl, iteF ⟨_, rfl, q ⟨hall, hok, hlen, hw⟩ r H2 hr1 (s1.trans s2) (s2 _ _ x1)⟩⟩
  · rw [decide_eq_false hw]
    exact ⟨_, rfl, iteT ⟨(by show 1 ≤ sizeLine; decide), qE (fun g => hw g.2.2.2) _ (s1.trans s2)⟩⟩
def sp_read_row (cN : Addr) : Sp := fun vs H Q E => ∃ (p : Addr) (os : List Int), vs = [.ref p] ∧ H p = some (.lst (os.map V.int)) ∧ os.length ≤ 2000 ∧
  (GoodO os → ∀ r H', H r = none → Same H H' → H' r = some (.lst ((toldB os).map V.int)) → Q (.ref r) H') ∧ (¬ GoodO os → ∀ H', Same H H' → E (.ref cN) none H')
theorem ok_read_row (T : Tx K mg a) : FnOk P w K mg base (CX1 P w) 8 a.f_read_row a.fd_read_row ["octets"] (sp_read_row a.c_NoOctets) := by
  refine T.D_read_row.F.ok1 sc_read_row (fun vs H Q E h => ?_) (fun cdv A outer s H vs Q E hr h => ?_)
  · obtain ⟨p, os, rfl, _⟩ := h
    rfl
  obtain ⟨p, os, rfl, h⟩ := h
  refine ⟨_, (pss_one (ps_ret (pe_cD T.D_read_as (ok_read_as T) (by decide) hr pass1 rfl (pa_cons (pv 0) (pa_cons (pe_glob (v := .ref a.f_told_bits) rfl T.D_told_bits.m rfl) (pa_cons (pe_glob (v := .ref a.f_row_octets) rfl T.D_row_octets.m rfl) pa_nil)))))), ?_⟩
  exact ⟨_, rfl, p, os, rfl, h⟩
theorem kitAny_no {K : PySem.W.Frag} {t c : Value} {r : List Value} (h : PySem.W.kitOne K t c = some false) : PySem.W.kitAny K t (c :: r) = PySem.W.kitAny K t r := by
  simp only [PySem.W.kitAny, h]
def RF : HO := .tup [.int 1, .bl true, .bl true, .bl false]
def sp_told (K : PySem.W.Frag) : Sp := fun vs H Q _ => ∃ (p : Addr) (os : List Int), vs = [.ref p] ∧ H p = some (.lst (os.map V.int)) ∧ os.length ≤ 2000 ∧
  (GoodO os → ∀ r H', H r = none → Same H H' → H' r = some (.lst ((toldB os).map V.int)) → Q (.ref r) H') ∧ (¬ GoodO os → ∀ r H', H r = none → Same H H' → H' r = some RF → Q (.ref r) H')
theorem ok_law_told (T : Tx K mg a) : FnOk P w K mg base CX0 9 a.f_law_told a.fd_law_told ["_law_octets_here"] (sp_told K) := by
  refine T.D_law_told.F.ok sc_law_told (fun vs H Q E h => ?_) (fun cdv A outer s H vs Q E hr h => ?_)
  · obtain ⟨p, os, rfl, _⟩ := h
    rfl
  obtain ⟨p, os, rfl, hp, hl, q, qE⟩ := h
  refine ⟨_, (pss_cons (ps_set (i := 1) sc_law_told.nd rfl (Or.inl rfl) (pe_tup (pa_cons pe_int (pa_cons pe_bl (pa_cons pe_bl (pa_cons pe_bl pa_nil))))))
    (pss_cons (ps_set (i := 2) sc_law_told.nd rfl (Or.inl rfl) (pe_lst pa_nil))
    (pss_cons (ps_try rfl rfl (fun _ _ => (pss_one (ps_set (i := 2) sc_law_told.nd rfl (Or.inl rfl) (pe_cD T.D_read_row (ok_read_row T) (by decide) hr passT rfl (pa_cons (pv 0) pa_nil))))) (ph_as (i := 3) T.x_NoOctets T.k_NoOctets rfl sc_law_told.nd rfl rfl (fun _ => (pss_cons (ps_set (i := 4) sc_law_told.nd rfl (Or.inl rfl) (pe_callB (show CallR _ _ (rIsxT K) from call_isxT) rfl T.b_isinstance Tw.bt_isinstance (pa_cons (pv 3) (pa_cons (pe_tup (pa_cons (pe_glob (v := .ref a.c_TooMany) rfl T.g_TooMany rfl) (pa_cons (pe_glob (v := .ref a.c_NoBit) rfl T.g_NoBit rfl) (pa_cons (pe_glob (v := .ref a.c_NoPlace) rfl T.g_NoPlace rfl) (pa_cons (pe_glob (v := .ref a.c_NoNode) rfl T.g_NoNode rfl) (pa_cons (pe_glob (v := .ref a.c_NoTree) rfl T.g_NoTree rfl) (pa_cons (pe_glob (v := .ref a.c_NoSign) rfl T.g_NoSign rfl) (pa_cons (pe_glob (v := .ref a.c_NoWord) rfl T.g_NoWord rfl) (pa_cons (pe_glob (v := .ref a.c_Twice) rfl T.g_Twice rfl) pa_nil))))))))) pa_nil))))
    (pss_one (ps_set (i := 1) sc_law_told.nd rfl (Or.inl rfl) (pe_tup (pa_cons pe_int (pa_cons (pe_callB (show CallR _ _ (rIsx K) from call_isx) rfl T.b_isinstance Tw.bt_isinstance (pa_cons (pv 3) (pa_cons (pe_glob (v := .ref a.c_WoodError) rfl T.g_WoodError rfl) pa_nil))) (pa_cons (pe_callB (show CallR _ _ (rIsx K) from call_isx) rfl T.b_isinstance Tw.bt_isinstance (pa_cons (pv 3) (pa_cons (pe_bltn (v := .ty "ValueError") rfl T.b_ValueError Tw.bt_ValueError rfl) pa_nil))) (pa_cons (pv 4) pa_nil))))))))) ph_nil))
    (pss_cons (ps_if (pt_cmpR op_gt (pe_ix ix_tup (pv 1) pe_int (fun _ _ => rfl)) pe_int (nomark _)) (pss_one (ps_ret (pv 1))) pss_nil)
    (pss_cons (ps_if (PW.pt (pw_or (pt_not (pt_val (pe_callB call_isi rfl T.b_isinstance Tw.bt_isinstance (pa_cons (pv 2) (pa_cons (pe_bltn (v := .ty "list") rfl T.b_list Tw.bt_list rfl) pa_nil))))) (pw_or1 (pt_cmpR op_gt (pe_callB call_len_seq rfl T.b_len Tw.bt_len (pa_cons (pe_comp rfl CompOk.zero (pi_list (pv 2)) (fun _ _ _ _ => (pts_one (pt_not (pt_val (pe_cD T.D_law_whole (ok_law_whole T) (by decide) hr pass0 rfl (pa_cons (pv 0) pa_nil)))))) (fun _ _ _ _ => (pv 0))) pa_nil)) pe_int (nomark _))))) (pss_one (ps_ret (pe_tup (pa_cons pe_int (pa_cons pe_bl (pa_cons pe_bl (pa_cons pe_bl pa_nil))))))) pss_nil)
    (pss_one (ps_ret (pv 2)))))))), ?_⟩
  refine ⟨(by show 4 ≤ sizeLine; decide), fun t0 ht0 => ?_⟩
  refine ⟨(by show 0 ≤ sizeLine; decide), fun f0 hf0 => ?_⟩
  have s1 := (same_new ht0 (.tup [.int 0, .bl false, .bl false, .bl false])).trans (same_new hf0 (.lst []))
  have x0 : upd (upd H t0 (.tup [.int 0, .bl false, .bl false, .bl false])) f0 (.lst []) t0 = some (.tup [.int 0, .bl false, .bl false, .bl false]) := same_new hf0 _ _ _ upd_same
  generalize upd (upd H t0 (.tup [.int 0, .bl false, .bl false, .bl false])) f0 (.lst []) = H1 at *
  refine ⟨_, rfl, p, os, rfl, s1 _ _ hp, hl, fun hg r H2 hr0 sm2 hr1 => ?_, fun hbad H2 sm2 => ⟨_, rfl, fun σ' hσ => ?_⟩⟩
  rotate_left
  · obtain ⟨k0, k1, k2, k3, k4, rfl⟩ := five hσ
    refine ⟨true, T.i_NoOctets_NoOctets, iteT fun ea hea => ?_⟩
    have sE := (s1.trans sm2).trans (same_new hea (excO ea a.c_NoOctets))
    refine ⟨_, rfl, (by show 8 ≤ sizeLine; decide), fun tp htp => ?_⟩
    have sT := same_new htp (.tup [.ref a.c_TooMany, .ref a.c_NoBit, .ref a.c_NoPlace, .ref a.c_NoNode, .ref a.c_NoTree, .ref a.c_NoSign, .ref a.c_NoWord, .ref a.c_Twice])
    refine ⟨ea, a.c_NoOctets, tp, [a.c_TooMany, a.c_NoBit, a.c_NoPlace, a.c_NoNode, a.c_NoTree, a.c_NoSign, a.c_NoWord, a.c_Twice], false, rfl, upd_same, sT _ _ upd_same, T.k_NoOctets, (by rw [List.map_cons, List.map_cons, List.map_cons, List.map_cons, List.map_cons, List.map_cons, List.map_cons, List.map_cons, kitAny_no T.i_NoOctets_TooMany, kitAny_no T.i_NoOctets_NoBit, kitAny_no T.i_NoOctets_NoPlace, kitAny_no T.i_NoOctets_NoNode, kitAny_no T.i_NoOctets_NoTree, kitAny_no T.i_NoOctets_NoSign, kitAny_no T.i_NoOctets_NoWord, kitAny_no T.i_NoOctets_Twice]; rfl), ?_⟩
    refine ⟨_, rfl, ea, _, _, _, _, rfl, .inl ⟨_, rfl, rfl⟩, sT _ _ upd_same, T.k_NoOctets, T.i_NoOctets_WoodError, ?_⟩
    refine ⟨_, rfl, ea, _, _, _, _, rfl, .inr ⟨_, rfl, rfl⟩, sT _ _ upd_same, T.k_NoOctets, T.i_NoOctets_ValueError, ?_⟩
    refine ⟨_, rfl, (by show 4 ≤ sizeLine; decide), fun t ht => ?_⟩
    refine ⟨_, rfl, t, _, _, _, rfl, rfl, SqT.of upd_same, rfl, _, _, rfl, rfl, _, rfl, ite2 (fun _ => ?_) fun z => absurd (by decide) z⟩
    exact ⟨_, rfl, qE hbad t _ ((sE.trans sT).free ht) ((sE.trans sT).trans (same_new ht _)) (by rw [upd_same]; rfl)⟩
  refine ⟨_, rfl, t0, _, _, _, rfl, rfl, SqT.of (sm2 _ _ x0), rfl, _, _, rfl, rfl, _, rfl, ite2 (fun z => absurd z (by decide)) fun _ => ?_⟩
  refine ⟨_, rfl, _, "list", _, true, rfl, .lst hr1, rfl, true, rfl, iteF ?_⟩
  have hlr : (toldB os).length ≤ 4096 := hg.2.2.1
  refine ⟨_, rfl, r, rfl, ⟨_, SqL.of hr1⟩, ?_⟩
  refine comp_filtS (fun z => false) (SqL.of hr1) (by rw [sizeLine_eq]; omega) (fun z H' Q _ q => ⟨_, rfl, z, rfl, true, rfl, q⟩) (fun z H' Q _ q => ⟨_, rfl, q⟩) fun D hD => ?_
  have e0 : (toldB os).filter (fun _ => false) = [] := by simp
  rw [e0]
  refine ⟨D, _, rfl, .inl (SqL.of upd_same), _, _, rfl, rfl, _, rfl, ite2 (fun z => absurd z (by decide)) fun _ => ?_⟩
  have sD := s1.trans sm2
  exact ⟨_, rfl, q hg r _ (s1.free hr0) (sD.trans (same_new hD _)) (same_new hD _ _ _ hr1)⟩
def sp_law_two : Sp := fun vs H Q _ => ∃ (x : Int), vs = [.int x] ∧ ∀ r, H r = none → Q (.ref r) (upd H r (.lst ([x % 256, x / 256].map V.int)))
theorem ok_law_two (T : Tx K mg a) : FnOk P w K mg base CX0 1 a.f_law_two a.fd_law_two ["_law_number"] sp_law_two := by
  refine T.D_law_two.F.ok sc_law_two (fun vs H Q E h => ?_) (fun cdv A outer s H vs Q E hr h => ?_)
  · obtain ⟨x, rfl, _⟩ := h
    rfl
  obtain ⟨x, rfl, q⟩ := h
  refine ⟨_, (pss_one (ps_ret (pe_lst (pa_cons (pe_op op_mod (pv 0) pe_int) (pa_cons (pe_op op_fdiv (pv 0) pe_int) pa_nil))))), ?_⟩
  exact ⟨_, rfl, _, _, rfl, rfl, (by show (0 : Int) < 256; decide), _, rfl, _, _, rfl, rfl, ⟨by decide, by decide⟩, (by show 2 ≤ sizeLine; decide), fun r hr' => q r hr'⟩

def sp_written (K : PySem.W.Frag) : Sp := fun vs H Q _ => ∃ (p : Addr) (ns : List Int), vs = [.ref p] ∧ SqL K H p (ns.map V.int) ∧ IsBits ns ∧ ns.length ≤ 4200 ∧ ∀ r H', H r = none → Same H H' → H' r = some (.lst ((rowO ns).map V.int)) → Q (.ref r) H'
theorem ok_law_written (T : Tx K mg a) : FnOk P w K mg base CX0 2 a.f_law_written a.fd_law_written ["_law_bits_here"] (sp_written K) := by
  refine T.D_law_written.F.ok sc_law_written (fun vs H Q E h => ?_) (fun cdv A outer s H vs Q E hr h => ?_)
  · obtain ⟨p, ns, rfl, _⟩ := h
    rfl
  obtain ⟨p, ns, rfl, hS, hb, hl, q⟩ := h
  refine ⟨_, (pss_cons (ps_set (i := 1) sc_law_written.nd rfl (Or.inl rfl) (pe_lst pa_nil))
    (pss_cons (ps_for PassesOwn.never rfl (pi_range8 rfl T.b_range (pa_cons pe_int (pa_cons (pe_callB call_len_seq rfl T.b_len Tw.bt_len (pa_cons (pv 0) pa_nil)) (pa_cons pe_int pa_nil)))) (pg_name (i := 2) sc_law_written.nd rfl (Or.inl rfl)) (pss_cons (ps_set (i := 3) sc_law_written.nd rfl (Or.inl rfl) pe_int)
    (pss_cons (ps_for PassesOwn.never rfl (pi_rev rfl T.b_reversed (pa_cons (pe_slice sl_list (pv 0) (po_some (pv 2)) (po_some (pe_op op_add (pv 2) pe_int))) pa_nil) Tw.bt_reversed) (pg_name (i := 4) sc_law_written.nd rfl (Or.inl rfl)) (pss_one (ps_set (i := 3) sc_law_written.nd rfl (Or.inl rfl) (pe_op op_add (pe_op op_mul pe_int (pv 3)) (pv 4)))))
    (pss_one (ps_expr (pe_bm PySem.F.plainAttrs_list PySem.F.slot_list_append PySem.F.type_list_append mt_append (pv 1) (pa_cons (pv 3) pa_nil)))))))
    (pss_cons (ps_while PassesOwn.never (pt_cmpR op_ne (pe_op op_mod (pe_callB call_len_seq rfl T.b_len Tw.bt_len (pa_cons (pv 1) pa_nil)) pe_int) pe_int (nomark _)) (pss_one (ps_expr (pe_bm PySem.F.plainAttrs_list PySem.F.slot_list_append PySem.F.type_list_append mt_append (pv 1) (pa_cons pe_int pa_nil)))))
    (pss_cons (ps_set (i := 5) sc_law_written.nd rfl (Or.inl rfl) pe_int)
    (pss_cons (ps_expr (pe_bm PySem.F.plainAttrs_list PySem.F.slot_list_extend PySem.F.type_list_extend mt_extend (pv 1) (pa_cons (pe_lst (pa_cons pe_int (pa_cons pe_int pa_nil))) pa_nil)))
    (pss_cons (ps_for PassesOwn.never rfl (pi_range3 rfl T.b_range (pa_cons pe_int (pa_cons (pe_callB call_len_seq rfl T.b_len Tw.bt_len (pa_cons (pv 0) pa_nil)) (pa_cons pe_int pa_nil)))) (pg_name (i := 2) sc_law_written.nd rfl (Or.inl rfl)) (pss_cons (ps_set (i := 5) sc_law_written.nd rfl (Or.inl rfl) (pe_op op_add (pv 5) (pe_callB (call_sum rfl) rfl T.b_sum Tw.bt_sum (pa_cons (pe_slice sl_list (pv 0) (po_some (pv 2)) (po_some (pe_op op_add (pv 2) pe_int))) pa_nil))))
    (pss_one (ps_expr (pe_bm PySem.F.plainAttrs_list PySem.F.slot_list_extend PySem.F.type_list_extend mt_extend (pv 1) (pa_cons (pe_cD T.D_law_two (ok_law_two T) (by decide) hr pass0 rfl (pa_cons (pv 5) pa_nil)) pa_nil))))))
    (pss_one (ps_ret (pe_op op_cat (pe_op op_cat (pe_lst (pa_cons pe_int pa_nil)) (pe_cD T.D_law_two (ok_law_two T) (by decide) hr pass0 rfl (pa_cons (pe_callB call_len_seq rfl T.b_len Tw.bt_len (pa_cons (pv 0) pa_nil)) pa_nil))) (pv 1)))))))))), ?_⟩
  have ern : (ns.map V.int).length = ns.length := List.length_map ..
  have hm : many ns.length ≤ 132 := by
    unfold many
    omega
  refine ⟨(by show 0 ≤ sizeLine; decide), fun r hr' => ?_⟩
  refine ⟨_, rfl, p, _, rfl, .inl ((same_new hr' _).seq hS), (ns.map V.int).length, rfl, (by omega), ?_⟩
  rw [ern]
  refine for_step (n := (ns.length + 7) / 8) (fun i σ H' => (∃ k2 k3 k4, σ = [some (.ref p), some (.ref r), k2, k3, k4, none]) ∧ Same H H' ∧ H' r = some (.lst (((List.range i).map (oct8 ns)).map V.int))) ⟨⟨none, none, none, rfl⟩, same_new hr' _, upd_same⟩ ?_ ?_
  · rintro i σ H' hi ⟨⟨k2, k3, k4, rfl⟩, sm, x⟩
    refine ⟨_, rfl, _, rfl, _, rfl, _, rfl, _, _, rfl, rfl, _, rfl, p, _, rfl, sm.seq hS, fun c hc => ⟨c, _, rfl, SqL.of upd_same, ?_⟩⟩
    have ec : cutV (ns.map V.int) (some (0 + (i : Int) * 8)) (some (0 + (i : Int) * 8 + 8)) = ((ns.drop (8 * i)).take 8).map V.int := by
      rw [show (0 : Int) + (i : Int) * 8 = ((8 * i : Nat) : Int) from by omega, show ((8 * i : Nat) : Int) + 8 = ((8 * i + 8 : Nat) : Int) from by omega, cut_nat, Nat.add_sub_cancel_left]
    rw [ec]
    have ne : r ≠ c := ne_of_none x hc
    have hbs : IsBits ((ns.drop (8 * i)).take 8) := fun y hy => hb y (List.mem_of_mem_drop (List.mem_of_mem_take hy))
    generalize hg : (ns.drop (8 * i)).take 8 = gs at *
    refine for_rev (xs := gs.map V.int) (fun j σ H2 => (∃ k4, σ = [some (.ref p), some (.ref r), some (.int (0 + (i : Int) * 8)), some (.int (blk (gs.drop (gs.length - j)))), k4, none]) ∧ Same H H2 ∧ H2 c = some (.lst (gs.map V.int)) ∧ H2 r = some (.lst (((List.range i).map (oct8 ns)).map V.int))) ?_ ?_ ?_ ?_
    · refine ⟨⟨k4, ?_⟩, sm.trans (same_new hc _), upd_same, by rw [upd_ne ne]; exact x⟩
      rw [Nat.sub_zero, List.drop_length]
      rfl
    · rintro j σ H2 _ ⟨_, _, h, _⟩
      exact SqL.of h
    · rintro j y σ H2 hj hy ⟨⟨k4, rfl⟩, sm2, xc, xr⟩
      obtain ⟨z, hz, rfl⟩ := int_at hy
      rw [List.length_map] at hj hz
      refine ⟨_, rfl, _, _, rfl, rfl, .inl ⟨by decide, by decide⟩, _, rfl, _, _, rfl, rfl, ⟨some (.int z), ?_⟩, sm2, xc, xr⟩
      have e : gs.drop (gs.length - (j + 1)) = z :: gs.drop (gs.length - j) := by
        have e1 : gs.length - (j + 1) = gs.length - 1 - j := by omega
        have e2 : gs.length - j = gs.length - 1 - j + 1 := by omega
        rw [e1, e2, List.drop_eq_getElem_cons (by omega)]
        congr 1
        have := List.getElem?_eq_some_iff.mp hz
        exact this.2
      rw [e]
      rfl
    · rintro σ H2 ⟨⟨k4, rfl⟩, sm2, xc, xr⟩
      rw [List.length_map, Nat.sub_self, List.drop_zero]
      refine ⟨_, rfl, .inl ⟨rfl, _, SqL.of xr⟩, _, rfl, r, _, _, rfl, rfl, xr, ?_, ⟨_, _, _, rfl⟩, same_set sm2 hr' _, ?_⟩
      · rw [List.length_map, List.length_map, List.length_range, sizeLine_eq]
        omega
      · rw [upd_same, List.range_succ, List.map_append, List.map_append]
        show some (HO.lst (_ ++ [V.int (blk gs)])) = some (HO.lst (_ ++ [V.int (oct8 ns i)]))
        unfold oct8
        rw [hg]
  rintro σ H1 ⟨⟨k2, k3, k4, rfl⟩, sm1, x1⟩
  refine ⟨fun m σ H' => ∃ k : Nat, σ = [some (.ref p), some (.ref r), k2, k3, k4, none] ∧ Same H H' ∧ H' r = some (.lst (((List.range k).map (oct8 ns)).map V.int)) ∧ (ns.length + 7) / 8 ≤ k ∧ k ≤ 4 * many ns.length ∧ m = 4 * many ns.length - k, ⟨_, (ns.length + 7) / 8, rfl, sm1, x1, Nat.le_refl _, by unfold many; omega, rfl⟩, ?_⟩
  rintro m σ H' ⟨k, rfl, sm, x, hk0, hk1, rfl⟩
  have elk : (((List.range k).map (oct8 ns)).map V.int).length = k := by
    rw [List.length_map, List.length_map, List.length_range]
  refine ⟨_, rfl, r, _, rfl, .inl (SqL.of x), _, _, rfl, rfl, (by show (0 : Int) < 4; decide), rfl, _, rfl, ?_⟩
  rw [elk]
  by_cases hk : k % 4 = 0
  rotate_left
  · refine ite2 (fun _ => ?_) fun z => absurd ?_ z
    rotate_left
    · have : ¬ (k : Int) % 4 = 0 := by omega
      rw [dec_int]
      simp [this]
    refine ⟨_, fun σ' H2 z => z, _, rfl, .inl ⟨rfl, _, SqL.of x⟩, r, _, _, rfl, rfl, x, ?_, 4 * many ns.length - (k + 1), by omega, k + 1, rfl, same_set sm hr' _, ?_, by omega, by omega, rfl⟩
    · rw [elk, sizeLine_eq]
      omega
    · rw [upd_same, List.range_succ, List.map_append, List.map_append]
      show some (HO.lst (_ ++ [V.int 0])) = some (HO.lst (_ ++ [V.int (oct8 ns k)]))
      rw [oct8_far (by omega)]
  have ek : k = 4 * many ns.length := by
    unfold many at *
    omega
  subst ek
  refine iteNS (congrArg V.int (by omega)) ?_
  refine ⟨_, rfl, .inl ⟨rfl, _, SqL.of x⟩, (by show 2 ≤ sizeLine; decide), fun z0 hz0 => ?_⟩
  have nz : r ≠ z0 := ne_of_none x hz0
  refine ⟨r, z0, _, _, rfl, rfl, by rw [upd_ne nz]; exact x, upd_same, ?_, ?_⟩
  · rw [elk, sizeLine_eq]
    show _ + 2 ≤ _
    omega
  have s2 : Same H (upd (upd H' z0 (.lst [.int 0, .int 0])) r (.lst (((List.range (4 * many ns.length)).map (oct8 ns)).map V.int ++ [.int 0, .int 0]))) := same_set (sm.trans (same_new hz0 _)) hr' _
  have x2 : (upd (upd H' z0 (.lst [.int 0, .int 0])) r (.lst (((List.range (4 * many ns.length)).map (oct8 ns)).map V.int ++ [.int 0, .int 0]))) r = some (.lst ((LO ns 0).map V.int)) := by
    rw [upd_same]
    unfold LO
    rw [List.map_append]
    rfl
  generalize upd (upd H' z0 (.lst [.int 0, .int 0])) r (.lst (((List.range (4 * many ns.length)).map (oct8 ns)).map V.int ++ [.int 0, .int 0])) = H2 at *
  refine ⟨_, rfl, p, _, rfl, .inl (s2.seq hS), (ns.map V.int).length, rfl, (by omega), ?_⟩
  rw [ern]
  refine for_step (n := (ns.length + 31) / 32) (fun i σ H' => (∃ k2 k3 k4, σ = [some (.ref p), some (.ref r), k2, k3, k4, some (.int (ns.take (32 * i)).sum)]) ∧ Same H H' ∧ H' r = some (.lst ((LO ns i).map V.int))) ⟨⟨k2, k3, k4, rfl⟩, s2, x2⟩ ?_ ?_
  · rintro i σ H' hi ⟨⟨k2, k3, k4, rfl⟩, sm, x⟩
    refine ⟨_, rfl, _, rfl, _, rfl, _, rfl, _, rfl, _, _, rfl, rfl, _, rfl, p, _, rfl, sm.seq hS, fun c hc => ?_⟩
    have ec : cutV (ns.map V.int) (some (0 + (i : Int) * 32)) (some (0 + (i : Int) * 32 + 32)) = ((ns.drop (32 * i)).take 32).map V.int := by
      rw [show (0 : Int) + (i : Int) * 32 = ((32 * i : Nat) : Int) from by omega, show ((32 * i : Nat) : Int) + 32 = ((32 * i + 32 : Nat) : Int) from by omega, cut_nat, Nat.add_sub_cancel_left]
    rw [ec]
    have s3 := same_new hc (.lst (((ns.drop (32 * i)).take 32).map V.int))
    refine ⟨c, (ns.drop (32 * i)).take 32, rfl, SqL.of upd_same, _, _, rfl, rfl, ?_⟩
    have es : (ns.take (32 * i)).sum + ((ns.drop (32 * i)).take 32).sum = (ns.take (32 * (i + 1))).sum := by
      rw [Nat.mul_succ, sum_take_add]
    have hsb := bits_sum_le (ns := ns.take (32 * (i + 1))) (fun y hy => hb y (List.mem_of_mem_take hy))
    have hsl : (ns.take (32 * (i + 1))).length ≤ 4200 := by
      rw [List.length_take]
      omega
    have eo : [((ns.take (32 * i)).sum + ((ns.drop (32 * i)).take 32).sum) % 256, ((ns.take (32 * i)).sum + ((ns.drop (32 * i)).take 32).sum) / 256] = octs (ns.take (32 * (i + 1))).sum 2 := by
      rw [es, octs_two hsb.1 (by omega)]
    refine ⟨_, rfl, .inl ⟨rfl, _, SqL.of (s3 _ _ x)⟩, _, rfl, _, rfl, fun t ht => ?_⟩
    rw [eo]
    have nt : r ≠ t := ne_of_none (s3 _ _ x) ht
    refine ⟨r, t, _, _, rfl, rfl, by rw [upd_ne nt]; exact s3 _ _ x, upd_same, ?_, ⟨_, _, _, by rw [← es]; rfl⟩, same_set (sm.trans (s3.trans (same_new ht _))) hr' _, ?_⟩
    · rw [List.length_map, List.length_map, LO_length, octs_length, sizeLine_eq]
      unfold many
      omega
    · rw [upd_same, LO_succ, List.map_append]
  rintro σ H3 ⟨⟨k2, k3, k4, rfl⟩, sm3, x3⟩
  refine ⟨(by show 1 ≤ sizeLine; decide), fun l1 hl1 => ?_⟩
  have s4 := same_new hl1 (.lst [.int 1])
  refine ⟨_, rfl, p, _, rfl, .inl ((sm3.trans s4).seq hS), _, rfl, fun l2 hl2 => ?_⟩
  rw [ern, ← octs_two (by omega) (by omega)]
  have s5 := same_new hl2 (.lst ((octs (ns.length : Int) 2).map V.int))
  refine ⟨l1, l2, _, _, rfl, rfl, s5 _ _ upd_same, upd_same, ?_, fun l3 hl3 => ?_⟩
  · rw [List.length_map, octs_length, sizeLine_eq]
    show 1 + 2 ≤ _
    decide
  have s6 := same_new hl3 (.lst ([.int 1] ++ (octs (ns.length : Int) 2).map V.int))
  refine ⟨_, rfl, l3, r, _, _, rfl, rfl, upd_same, (s4.trans (s5.trans s6)) _ _ x3, ?_, fun l4 hl4 => ?_⟩
  · rw [List.length_append, List.length_map, octs_length, List.length_map, LO_length, sizeLine_eq]
    show 1 + 2 + _ ≤ _
    omega
  have sA := sm3.trans (s4.trans (s5.trans s6))
  refine q l4 _ (sA.free hl4) (sA.trans (same_new hl4 _)) ?_
  rw [upd_same, rowO_LO hb, List.map_append, List.map_append]
  rfl

theorem tup4_same (n : Int) (x y z : Bool) : SeqAt.shaped (.tuple [.int n, .bool x, .bool y, .bool z]) = true ∧ PyData.eqv (.tuple [.int n, .bool x, .bool y, .bool z]) (.tuple [.int n, .bool x, .bool y, .bool z]) = true := by
  have hc : (PyData.tuple [.int n, .bool x, .bool y, .bool z]).canLay0 = true := by
    simp only [PyData.canLayAll0, PyData.canLay0, Bool.and_self]
  refine ⟨?_, SeqAt.eqv_refl _ hc⟩
  unfold SeqAt.shaped
  rw [hc, Bool.true_and]
  refine decide_eq_true ?_
  simp only [PyData.depthAll, PyData.depth]
  omega
def sp_law_bits (K : PySem.W.Frag) : Sp := fun vs H Q _ => ∃ (p : Addr) (zs : List Int), vs = [.ref p] ∧ SqL K H p (zs.map V.int) ∧ zs.length ≤ 63 ∧
  ∀ r H' ns, Same H H' → H' r = some (.lst (ns.map V.int)) → IsBits ns → ns.length ≤ 1260 → Q (.ref r) H'
theorem ok_law_bits (T : Tx K mg a) : FnOk P w K mg base CX0 1 a.f_law_bits a.fd_law_bits ["_law_script"] (sp_law_bits K) := by
  refine T.D_law_bits.F.ok sc_law_bits (fun vs H Q E h => ?_) (fun cdv A outer s H vs Q E hr h => ?_)
  · obtain ⟨p, zs, rfl, _⟩ := h
    rfl
  obtain ⟨p, zs, rfl, hS, hl, q⟩ := h
  refine ⟨_, (pss_cons (ps_set (i := 1) sc_law_bits.nd rfl (Or.inl rfl) (pe_lst pa_nil))
    (pss_cons (ps_for PassesOwn.never rfl (pi_list (pe_slice sl_list (pv 0) po_none (po_some pe_int))) (pg_name (i := 2) sc_law_bits.nd rfl (Or.inl rfl)) (pss_cons (ps_set (i := 3) sc_law_bits.nd rfl (Or.inl rfl) (pe_op op_mod (pe_op op_mul (pv 2) pe_int) pe_int))
    (pss_cons (ps_set (i := 4) sc_law_bits.nd rfl (Or.inl rfl) (pe_op op_fdiv (pv 3) pe_int))
    (pss_one (ps_for PassesOwn.never rfl (pi_range1 rfl T.b_range (pa_cons (pe_op op_add pe_int (pe_op op_mod (pe_op op_fdiv (pv 3) pe_int) pe_int)) pa_nil)) (pg_name (i := 5) sc_law_bits.nd rfl (Or.inl rfl)) (pss_cons (ps_expr (pe_bm PySem.F.plainAttrs_list PySem.F.slot_list_append PySem.F.type_list_append mt_append (pv 1) (pa_cons (pe_op op_mod (pv 4) pe_int) pa_nil)))
    (pss_one (ps_if (pt_cmpR op_eq (pe_op op_mod (pv 3) pe_int) pe_int (nomark _)) (pss_one (ps_set (i := 4) sc_law_bits.nd rfl (Or.inl rfl) (pe_op op_fdiv (pv 4) pe_int))) pss_nil))))))))
    (pss_one (ps_ret (pv 1))))), ?_⟩
  refine ⟨(by show 0 ≤ sizeLine; decide), fun r hr' => ?_⟩
  refine ⟨_, rfl, _, rfl, p, _, rfl, (same_new hr' _).seq hS, fun c hc => ⟨c, rfl, ⟨_, SqL.of upd_same⟩, ?_⟩⟩
  have ez : cutV (zs.map V.int) none (some 63) = zs.map V.int := by
    rw [show (63 : Int) = ((63 : Nat) : Int) from rfl, cut_to, List.take_of_length_le hl]
  rw [ez] at *
  have ne : r ≠ c := ne_of_none upd_same hc
  refine for_list (xs := zs.map V.int) (fun i σ H' => (∃ k1 k2 k3 k4, σ = [some (.ref p), some (.ref r), k1, k2, k3, k4]) ∧ Same H H' ∧ H' c = some (.lst (zs.map V.int)) ∧ ∃ ns, H' r = some (.lst (ns.map V.int)) ∧ IsBits ns ∧ ns.length ≤ 20 * i) ?_ ?_ ?_ ?_
  · refine ⟨⟨none, none, none, none, rfl⟩, (same_new hr' _).trans (same_new hc _), upd_same, [], ?_, fun x hx => by simp at hx, by simp⟩
    rw [upd_ne ne, upd_same]
    rfl
  · rintro i σ H' _ ⟨_, _, h, _⟩
    exact SqL.of h
  · rintro i x σ H' hx ⟨⟨k1, k2, k3, k4, rfl⟩, sm, hc1, ns, hr1, hb, hn⟩
    obtain ⟨z, hz, rfl⟩ := int_at hx
    have hi := (List.getElem?_eq_some_iff.mp hz).1
    refine ⟨_, rfl, _, _, rfl, rfl, .inr ⟨by decide, by decide⟩, _, _, rfl, rfl, (by show (0 : Int) < 2147483647; decide), ?_⟩
    refine ⟨_, rfl, _, _, rfl, rfl, ⟨by decide, by decide⟩, ?_⟩
    refine ⟨_, rfl, _, _, rfl, rfl, ⟨by decide, by decide⟩, _, _, rfl, rfl, (by show (0 : Int) < 20; decide), _, _, rfl, rfl, _, rfl, ?_, ?_, ?_⟩
    · omega
    · omega
    refine for_range (fun j σ H' => (∃ pc k, σ = [some (.ref p), some (.ref r), some (.int z), some (.int (z * 48271 % 2147483647)), some (.int pc), k]) ∧ Same H H' ∧ H' c = some (.lst (zs.map V.int)) ∧
      ∃ ns, H' r = some (.lst (ns.map V.int)) ∧ IsBits ns ∧ ns.length ≤ 20 * i + j) ?_ ?_ ?_
    · exact ⟨⟨_, _, rfl⟩, sm, hc1, ns, hr1, hb, by omega⟩
    · rintro j σ H2 hj ⟨⟨pc, k, rfl⟩, sm2, hc2, ms, hr2, hb2, hn2⟩
      have hj20 : j < 20 := by omega
      refine ⟨_, rfl, .inl ⟨rfl, _, SqL.of hr2⟩, _, rfl, _, _, rfl, rfl, (by show (0 : Int) < 2; decide), r, _, _, rfl, rfl, hr2, ?_, ?_⟩
      · rw [List.length_map]
        exact small (by omega)
      · have next : ∀ pc' k', ((∃ pc k, [some (V.ref p), some (.ref r), some (.int z), some (.int (z * 48271 % 2147483647)), some (.int pc'), k'] = [some (.ref p), some (.ref r), some (.int z), some (.int (z * 48271 % 2147483647)), some (.int pc), k]) ∧
            Same H (upd H2 r (.lst (ms.map V.int ++ [.int (pc % 2)]))) ∧ (upd H2 r (.lst (ms.map V.int ++ [.int (pc % 2)]))) c = some (.lst (zs.map V.int)) ∧
            ∃ ns, (upd H2 r (.lst (ms.map V.int ++ [.int (pc % 2)]))) r = some (.lst (ns.map V.int)) ∧ IsBits ns ∧ ns.length ≤ 20 * i + (j + 1)) := fun pc' k' => by
          refine ⟨⟨_, _, rfl⟩, same_set sm2 hr' _, by rw [upd_ne (Ne.symm ne)]; exact hc2, ms ++ [pc % 2], ?_, isBits_append hb2 fun x hx => ?_, ?_⟩
          · rw [upd_same, List.map_append]
            rfl
          · rw [List.mem_singleton.mp hx]
            omega
          · rw [List.length_append, List.length_singleton]
            omega
        refine ⟨_, rfl, _, _, rfl, rfl, (by show (0 : Int) < 2; decide), rfl, _, rfl, ite2 (fun _ => ?_) fun _ => next _ _⟩
        exact ⟨_, rfl, _, _, rfl, rfl, ⟨by decide, by decide⟩, next _ _⟩
    · rintro σ H2 ⟨⟨pc, k, rfl⟩, sm2, hc2, ms, hr2, hb2, hn2⟩
      exact ⟨⟨_, _, _, _, rfl⟩, sm2, hc2, ms, hr2, hb2, by omega⟩
  · rintro σ H' ⟨⟨k1, k2, k3, k4, rfl⟩, sm, hc1, ns, hr1, hb, hn⟩
    rw [List.length_map] at hn
    exact ⟨_, rfl, q r H' ns sm hr1 hb (by omega)⟩
def sp_law_changed : Sp := fun vs H Q _ => ∃ (p : Addr) (os : List Int) (c : Int), vs = [.ref p, .int c] ∧ H p = some (.lst (os.map V.int)) ∧ os.length ≤ 1900 ∧
  ∀ r H' (ms : List Int), Same H H' → H' r = some (.lst (ms.map V.int)) → ms.length ≤ os.length + 1 → Q (.ref r) H'
theorem ok_law_changed (T : Tx K mg a) : FnOk P w K mg base CX0 1 a.f_law_changed a.fd_law_changed ["_law_octets_here", "_law_cell"] sp_law_changed := by
  refine T.D_law_changed.F.ok sc_law_changed (fun vs H Q E h => ?_) (fun cdv A outer s H vs Q E hr h => ?_)
  · obtain ⟨p, os, c, rfl, _⟩ := h
    rfl
  obtain ⟨p, os, c, rfl, hp, hl, q⟩ := h
  refine ⟨_, (pss_cons (ps_set (i := 2) sc_law_changed.nd rfl (Or.inl rfl) (pe_op op_mod (pv 1) (pe_op op_pow pe_int pe_int)))
    (pss_cons (ps_set (i := 3) sc_law_changed.nd rfl (Or.inl rfl) (pe_op op_mod (pe_op op_fdiv (pv 2) pe_int) (pe_op op_add (pe_callB call_len_seq rfl T.b_len Tw.bt_len (pa_cons (pv 0) pa_nil)) pe_int)))
    (pss_cons (ps_set (i := 4) sc_law_changed.nd rfl (Or.inl rfl) (pe_op op_mod (pe_op op_mod (pe_op op_mul (pv 2) pe_int) pe_int) pe_int))
    (pss_cons (ps_if (PW.pt (pw_and (pt_cmpR op_eq (pe_op op_mod (pv 2) pe_int) pe_int (nomark _)) (pw_and1 (pt_cmpR op_lt (pv 3) (pe_callB call_len_seq rfl T.b_len Tw.bt_len (pa_cons (pv 0) pa_nil)) (nomark _))))) (pss_cons (ps_set (i := 5) sc_law_changed.nd rfl (Or.inl rfl) (pe_op op_shl pe_int (pe_op op_mod (pv 4) pe_int)))
    (pss_one (ps_ret (pe_op op_cat (pe_op op_cat (pe_slice sl_list (pv 0) po_none (po_some (pv 3))) (pe_lst (pa_cons (pe_op op_xor (pe_ix ix_list (pv 0) (pv 3) (fun _ _ => rfl)) (pv 5)) pa_nil))) (pe_slice sl_list (pv 0) (po_some (pe_op op_add (pv 3) pe_int)) po_none))))) pss_nil)
    (pss_cons (ps_if (PW.pt (pw_and (pt_cmpR op_eq (pe_op op_mod (pv 2) pe_int) pe_int (nomark _)) (pw_and1 (pt_cmpR op_lt (pv 3) (pe_callB call_len_seq rfl T.b_len Tw.bt_len (pa_cons (pv 0) pa_nil)) (nomark _))))) (pss_one (ps_ret (pe_op op_cat (pe_op op_cat (pe_slice sl_list (pv 0) po_none (po_some (pv 3))) (pe_lst (pa_cons (pe_ix ix_list (pe_lst (pa_cons (pv 4) (pa_cons (pe_op op_add pe_int (pv 2)) (pa_cons (pe_op op_sub (pe_op op_sub pe_int pe_int) (pv 2)) pa_nil)))) (pe_op op_mod (pv 4) pe_int) (fun _ _ => rfl)) pa_nil))) (pe_slice sl_list (pv 0) (po_some (pe_op op_add (pv 3) pe_int)) po_none)))) pss_nil)
    (pss_cons (ps_if (pt_cmpR op_eq (pe_op op_mod (pv 2) pe_int) pe_int (nomark _)) (pss_one (ps_ret (pe_op op_cat (pe_op op_cat (pe_slice sl_list (pv 0) po_none (po_some (pv 3))) (pe_lst (pa_cons (pv 4) pa_nil))) (pe_slice sl_list (pv 0) (po_some (pv 3)) po_none)))) pss_nil)
    (pss_cons (ps_if (pt_cmpR op_eq (pe_op op_mod (pv 2) pe_int) pe_int (nomark _)) (pss_one (ps_ret (pe_op op_cat (pe_slice sl_list (pv 0) po_none (po_some (pv 3))) (pe_slice sl_list (pv 0) (po_some (pe_op op_add (pv 3) pe_int)) po_none)))) pss_nil)
    (pss_cons (ps_if (PW.pt (pw_and (pt_cmpR op_eq (pe_op op_mod (pv 2) pe_int) pe_int (nomark _)) (pw_and1 (pt_cmpR op_lt (pv 3) (pe_callB call_len_seq rfl T.b_len Tw.bt_len (pa_cons (pv 0) pa_nil)) (nomark _))))) (pss_one (ps_ret (pe_op op_cat (pe_op op_cat (pe_slice sl_list (pv 0) po_none (po_some (pv 3))) (pe_rev3 (pe_slice sl_list (pv 0) (po_some (pv 3)) (po_some (pe_op op_add (pv 3) pe_int))) (pe_un un_neg pe_int))) (pe_slice sl_list (pv 0) (po_some (pe_op op_add (pv 3) pe_int)) po_none)))) pss_nil)
    (pss_cons (ps_if (pt_cmpR op_eq (pe_op op_mod (pv 2) pe_int) pe_int (nomark _)) (pss_one (ps_ret (pe_op op_cat (pv 0) (pe_lst (pa_cons pe_int pa_nil))))) pss_nil)
    (pss_one (ps_ret (pv 0)))))))))))), ?_⟩
  have ern : (os.map V.int).length = os.length := List.length_map ..
  refine mi_set (mi_op (mi_var rfl) (mi_op mi_c mi_c ⟨by decide, by decide, by decide⟩) (by show (0 : Int) < 10 ^ 60; decide)) fun H1 s1 => ?_
  obtain ⟨n, hn⟩ : ∃ n : Int, c % 10 ^ (60 : Int).toNat = n := ⟨_, rfl⟩
  rw [hn]
  obtain ⟨i, hi⟩ : ∃ i : Nat, n / 7 % ((os.length : Int) + 1) = (i : Int) := ⟨_, (Int.toNat_of_nonneg (Int.emod_nonneg _ (by omega))).symm⟩
  have hil : i ≤ os.length := by
    have := Int.emod_lt_of_pos (n / 7) (b := (os.length : Int) + 1) (by omega)
    omega
  refine mi_set (MI.to (mi_op (mi_op (mi_var rfl) mi_c ⟨by decide, by decide⟩) (mi_op0 (mi_len (mv_var rfl (s1 _ _ hp))) mi_c) (by show (0 : Int) < (os.length : Int) + 1; omega)) hi) fun H2 s2 => ?_
  obtain ⟨d, hd⟩ : ∃ d : Int, n * 69621 % 2147483629 % 256 = d := ⟨_, rfl⟩
  have hd0 : 0 ≤ d := by omega
  refine mi_set (MI.to (mi_op (mi_op (mi_op (mi_var rfl) mi_c (.inr ⟨by decide, by decide⟩)) mi_c (by show (0 : Int) < 2147483629; decide)) mi_c (by show (0 : Int) < 256; decide)) hd) fun H3 s3 => ?_
  have sm := s1.trans (s2.trans s3)
  have hp3 := sm _ _ hp
  have m7 : ∀ (k5 : Option V) (k : Int), PT [some (.ref p), some (.int c), some (.int n), some (.int (i : Int)), some (.int d), k5] H3 (tTest (tOp rEq (tOp (rI (fun x j => 0 < j) fun i j => V.int (i % j)) (tVar 2) (tC (V.int 7))) (tC (V.int k)))) (fun _ => True) := fun k5 k Q q => ⟨_, rfl, _, _, rfl, rfl, (by show (0 : Int) < 7; decide), rfl, _, rfl, q _ trivial⟩
  have mlt : ∀ (k5 : Option V), PT [some (.ref p), some (.int c), some (.int n), some (.int (i : Int)), some (.int d), k5] H3 (tTest (tOp (rI0 fun i j => V.bl (decide (i < j))) (tVar 3) (tCB (fun xs H Q => ∃ p ys, xs = [V.ref p] ∧ (SqL K H p ys ∨ SqT K H p ys) ∧ Q (.int (ys.length : Int)) H) (tCons (tVar 0) tNil)))) (fun b => b = true → i < os.length) := fun k5 Q q => ⟨_, rfl, _, rfl, p, _, rfl, .inl (SqL.of hp3), _, _, rfl, rfl, _, rfl, q _ fun z => by have := of_decide_eq_true z; rw [ern] at this; omega⟩
  have v0 := fun (k5 : Option V) => mv_var (H0 := H3) (σ := [some (.ref p), some (.int c), some (.int n), some (.int (i : Int)), some (.int d), k5]) (i := 0) rfl hp3
  have l1 : (os.take i).length = i := by
    rw [List.length_take]
    omega
  have l2 : (os.drop (i + 1)).length = os.length - (i + 1) := List.length_drop ..
  have l3 : (os.drop i).length = os.length - i := List.length_drop ..
  refine PT.arm (PT.and (m7 _ 0) (mlt _)) (fun hh => ?_) fun _ => ?_
  · have hlt := (hh rfl).2 rfl
    refine mi_set (mi_op mi_c (mi_op (mi_var rfl) mi_c (by show (0 : Int) < 8; decide)) ⟨by show 0 ≤ d % 8; omega, by show d % 8 ≤ 1000000; omega, by decide⟩) fun H4 s4 => ?_
    have v0 := mv_var (H0 := H4) (σ := [some (.ref p), some (.int c), some (.int n), some (.int (i : Int)), some (.int d), some (.int (1 * 2 ^ (d % 8).toNat))]) (i := 0) rfl (s4 _ _ hp3)
    refine ml_ret (ml_cat (ml_cat (ml_to v0 (mi_var rfl) rfl).v (ml_lst (ma_cons (mi_op0 (mi_ixL v0 (mi_var rfl) rfl (List.getElem?_eq_getElem hlt)) (mi_var rfl)) ma_nil) (by show 1 ≤ 500000; decide)).v ?_).v (ml_from (j := i + 1) v0 (mi_op0 (mi_var rfl) mi_c) (by omega)).v ?_) fun r H' _ s5 x => q r H' _ (sm.trans (s4.trans s5)) x ?_
    all_goals simp only [List.length_append, List.length_cons, List.length_nil, l1, l2]
    all_goals omega
  refine PT.arm (PT.and (m7 _ 1) (mlt _)) (fun hh => ?_) fun _ => ?_
  · have hlt := (hh rfl).2 rfl
    obtain ⟨j, hj, hj3⟩ : ∃ j : Nat, d % 3 = (j : Int) ∧ j < 3 := ⟨(d % 3).toNat, by omega, by omega⟩
    refine ml_ret (ml_cat (ml_cat (ml_to (v0 _) (mi_var rfl) rfl).v (ml_lst (ma_cons (mi_ixL (ns := [d, 256 + n, 0 - 1 - n]) (ml_lst (ma_cons (mi_var rfl) (ma_cons (mi_op0 mi_c (mi_var rfl)) (ma_cons (mi_op0 (mi_op0 mi_c mi_c) (mi_var rfl)) ma_nil))) (by show 3 ≤ 500000; decide)).v (mi_op (mi_var rfl) mi_c (by show (0 : Int) < 3; decide)) hj (List.getElem?_eq_getElem (by show j < 3; exact hj3))) ma_nil) (by show 1 ≤ 500000; decide)).v ?_).v (ml_from (j := i + 1) (v0 _) (mi_op0 (mi_var rfl) mi_c) (by omega)).v ?_) fun r H' _ s5 x => q r H' _ (sm.trans s5) x ?_
    all_goals simp only [List.length_append, List.length_cons, List.length_nil, l1, l2]
    all_goals omega
  refine PT.arm (m7 _ 2) (fun _ => ?_) fun _ => ?_
  · refine ml_ret (ml_cat (ml_cat (ml_to (v0 _) (mi_var rfl) rfl).v (ml_lst (ma_cons (mi_var rfl) ma_nil) (by show 1 ≤ 500000; decide)).v ?_).v (ml_from (j := i) (v0 _) (mi_var rfl) rfl).v ?_) fun r H' _ s5 x => q r H' _ (sm.trans s5) x ?_
    all_goals simp only [List.length_append, List.length_cons, List.length_nil, l1, l3]
    all_goals omega
  refine PT.arm (m7 _ 3) (fun _ => ?_) fun _ => ?_
  · refine ml_ret (ml_cat (ml_to (v0 _) (mi_var rfl) rfl).v (ml_from (j := i + 1) (v0 _) (mi_op0 (mi_var rfl) mi_c) (by omega)).v ?_) fun r H' _ s5 x => q r H' _ (sm.trans s5) x ?_
    all_goals simp only [List.length_append, List.length_cons, List.length_nil, l1, l2]
    all_goals omega
  refine PT.arm (PT.and (m7 _ 4) (mlt _)) (fun hh => ?_) fun _ => ?_
  · have hlt := (hh rfl).2 rfl
    refine ml_ret (ml_cat (ml_cat (ml_to (v0 _) (mi_var rfl) rfl).v (ml_rev (ml_mid (j := i) (k := i + 2) (v0 _) (mi_var rfl) (mi_op0 (mi_var rfl) mi_c) rfl (by omega)).v (mi_neg mi_c)).v ?_).v (ml_from (j := i + 2) (v0 _) (mi_op0 (mi_var rfl) mi_c) (by omega)).v ?_) fun r H' _ s5 x => q r H' _ (sm.trans s5) x ?_
    all_goals simp only [List.length_append, List.length_reverse, List.length_take, List.length_drop]
    all_goals omega
  refine PT.arm (m7 _ 5) (fun _ => ?_) fun _ => ?_
  · refine ml_ret (ml_cat (v0 _) (ml_lst (ma_cons mi_c ma_nil) (by show 1 ≤ 500000; decide)).v ?_) fun r H' _ s5 x => q r H' _ (sm.trans s5) x ?_
    all_goals simp only [List.length_append, List.length_cons, List.length_nil]
    all_goals omega
  exact ⟨_, rfl, q p _ os sm hp3 (by omega)⟩
theorem mi_cell {H0 : Hp} {σ : St} {p : Addr} {zs : List Int} {k : Nat} {i : Int} {t : TE} {E : XK} (e : σ[0]? = some (some (.ref p))) (hS : SqL K H0 p (zs.map V.int)) (ht : MI H0 σ t i) (ei : i = (k : Int)) : MI H0 σ (tCall (sp_cell_at K) [] E (tCons (tVar 0) (tCons t tNil))) ((zs[k]?).getD 0) := fun H _ s q =>
  ⟨_, e, ht H _ s fun H1 s1 => ⟨p, zs, k, by rw [ei]; rfl, (s.trans s1).seq hS, q H1 s1⟩⟩
theorem ml_two {H0 : Hp} {σ : St} {m : Int} {t : TE} {E : XK} (ht : MI H0 σ t m) : ML H0 σ (tCall sp_law_two [] E (tCons t tNil)) [m % 256, m / 256] := fun H _ s q =>
  ht H _ s fun H1 s1 => ⟨m, rfl, fun r hr => q r _ (s1.free hr) (s1.trans (same_new hr _)) upd_same⟩
def sp_law_octets (K : PySem.W.Frag) : Sp := fun vs H Q _ => ∃ (p : Addr) (zs : List Int), vs = [.ref p] ∧ SqL K H p (zs.map V.int) ∧ zs.length ≤ 63 ∧
  ∀ r H' (ms : List Int), Same H H' → H' r = some (.lst (ms.map V.int)) → ms.length ≤ 1500 → Q (.ref r) H'
theorem ok_law_octets (T : Tx K mg a) : FnOk P w K mg base CX0 3 a.f_law_octets a.fd_law_octets ["_law_script"] (sp_law_octets K) := by
  refine T.D_law_octets.F.ok sc_law_octets (fun vs H Q E h => ?_) (fun cdv A outer s H vs Q E hr h => ?_)
  · obtain ⟨p, zs, rfl, _⟩ := h
    rfl
  obtain ⟨p, zs, rfl, hS, hl, q⟩ := h
  refine ⟨_, (pss_cons (ps_set (i := 1) sc_law_octets.nd rfl (Or.inl rfl) (pe_op op_mod (pe_cD T.D_law_cell_at (ok_law_cell_at T) (by decide) hr pass0 rfl (pa_cons (pv 0) (pa_cons pe_int pa_nil))) pe_int))
    (pss_cons (ps_set (i := 2) sc_law_octets.nd rfl (Or.inl rfl) (pe_op op_cat (pe_lst (pa_cons pe_int pa_nil)) (pe_comp rfl CompOk.zero (pi_list (pe_slice sl_list (pv 0) po_none (po_some pe_int))) (fun _ _ _ _ => pts_nil) (fun _ _ _ _ => (pe_op op_mod (pv 0) pe_int)))))
    (pss_cons (ps_set (i := 3) sc_law_octets.nd rfl (Or.inl rfl) (pe_cD T.D_law_bits (ok_law_bits T) (by decide) hr pass0 rfl (pa_cons (pv 0) pa_nil)))
    (pss_cut (ps_if (PW.pt (pw_and (pt_cmpR op_eq (pv 1) pe_int (nomark _)) (pw_and1 (pt_cmpR op_gt (pe_op op_mod (pe_cD T.D_law_cell_at (ok_law_cell_at T) (by decide) hr pass0 rfl (pa_cons (pv 0) (pa_cons pe_int pa_nil))) pe_int) pe_int (nomark _))))) (pss_one (ps_set (i := 3) sc_law_octets.nd rfl (Or.inl rfl) (pe_slice sl_list (pe_op op_cat (pv 3) (pe_op op_rep (pe_lst (pa_cons pe_int (pa_cons pe_int pa_nil))) pe_int)) po_none (po_some (pe_op op_add pe_int (pe_op op_mod (pe_cD T.D_law_cell_at (ok_law_cell_at T) (by decide) hr pass0 rfl (pa_cons (pv 0) (pa_cons pe_int pa_nil))) pe_int)))))) pss_nil)
    (pss_cut (ps_if (pt_cmpR op_lt (pv 1) pe_int (nomark _)) (pss_one (ps_set (i := 2) sc_law_octets.nd rfl (Or.inl rfl) (pe_cD T.D_law_written (ok_law_written T) (by decide) hr pass0 rfl (pa_cons (pv 3) pa_nil)))) pss_nil)
    (pss_cut (ps_if (pt_cmpR op_lt (pv 1) pe_int (nomark _)) (pss_one (ps_for PassesOwn.never rfl (pi_range1 rfl T.b_range (pa_cons (pe_op op_add pe_int (pe_op op_mod (pe_cD T.D_law_cell_at (ok_law_cell_at T) (by decide) hr pass0 rfl (pa_cons (pv 0) (pa_cons pe_int pa_nil))) pe_int)) pa_nil)) (pg_name (i := 4) sc_law_octets.nd rfl (Or.inl rfl)) (pss_one (ps_set (i := 2) sc_law_octets.nd rfl (Or.inl rfl) (pe_cD T.D_law_changed (ok_law_changed T) (by decide) hr pass0 rfl (pa_cons (pv 2) (pa_cons (pe_cD T.D_law_cell_at (ok_law_cell_at T) (by decide) hr pass0 rfl (pa_cons (pv 0) (pa_cons (pe_op op_add pe_int (pv 4)) pa_nil))) pa_nil))))))) pss_nil)
    (pss_cut (ps_if (PW.pt (pw_and (pt_cmpR op_eq (pv 1) pe_int (nomark _)) (pw_and1 (pt_cmpR op_gt (pe_callB call_len_seq rfl T.b_len Tw.bt_len (pa_cons (pv 2) pa_nil)) pe_int (nomark _))))) (pss_cons (ps_set (i := 5) sc_law_octets.nd rfl (Or.inl rfl) (pe_op op_add (pe_ix ix_list (pv 2) pe_int (fun _ _ => rfl)) (pe_op op_mul pe_int (pe_op op_mod (pe_ix ix_list (pv 2) pe_int (fun _ _ => rfl)) pe_int))))
    (pss_one (ps_set (i := 2) sc_law_octets.nd rfl (Or.inl rfl) (pe_op op_cat (pe_op op_cat (pe_lst (pa_cons pe_int pa_nil)) (pe_cD T.D_law_two (ok_law_two T) (by decide) hr pass0 rfl (pa_cons (pv 5) pa_nil))) (pe_slice sl_list (pe_op op_cat (pe_slice sl_list (pv 2) (po_some pe_int) po_none) (pe_op op_rep (pe_lst (pa_cons pe_int pa_nil)) pe_int)) po_none (po_some (pe_op op_add (pe_op op_mul (pe_op op_fdiv (pe_op op_add (pv 5) pe_int) pe_int) pe_int) pe_int))))))) pss_nil)
    (pss_cut (ps_if (pt_cmpR op_eq (pv 1) pe_int (nomark _)) (pss_one (ps_set (i := 2) sc_law_octets.nd rfl (Or.inl rfl) (pe_lst (pa_cons pe_int (pa_cons (pe_op op_sub pe_int (pe_op op_mod (pe_cD T.D_law_cell_at (ok_law_cell_at T) (by decide) hr pass0 rfl (pa_cons (pv 0) (pa_cons pe_int pa_nil))) pe_int)) (pa_cons (pe_op op_sub pe_int (pe_op op_mod (pe_cD T.D_law_cell_at (ok_law_cell_at T) (by decide) hr pass0 rfl (pa_cons (pv 0) (pa_cons pe_int pa_nil))) pe_int)) pa_nil)))))) pss_nil)
    (pss_cut (ps_if (pt_cmpR op_eq (pe_op op_mod (pe_cD T.D_law_cell_at (ok_law_cell_at T) (by decide) hr pass0 rfl (pa_cons (pv 0) (pa_cons pe_int pa_nil))) pe_int) pe_int (nomark _)) (pss_one (ps_set (i := 2) sc_law_octets.nd rfl (Or.inl rfl) (pe_lst pa_nil))) pss_nil)
    (pss_one (ps_ret (pv 2)))))))))))), ?_⟩
  refine mi_set (mi_op (mi_cell (k := 0) rfl hS mi_c rfl) mi_c (by show (0 : Int) < 9; decide)) fun H1 s1 => ?_
  obtain ⟨wy, hwy⟩ : ∃ wy : Int, ((zs[0]?).getD 0) % 9 = wy := ⟨_, rfl⟩
  rw [hwy]
  refine ⟨(by show 1 ≤ sizeLine; decide), fun l1 hl1 => ?_⟩
  have s2 := same_new hl1 (.lst [.int 1])
  refine ⟨_, rfl, _, rfl, p, _, rfl, (s1.trans s2).seq hS, fun c hc => ⟨c, rfl, ⟨_, SqL.of upd_same⟩, ?_⟩⟩
  have ez : cutV (zs.map V.int) none (some 63) = zs.map V.int := by
    rw [show (63 : Int) = ((63 : Nat) : Int) from rfl, cut_to, List.take_of_length_le hl]
  rw [ez]
  have s3 := same_new hc (.lst (zs.map V.int))
  refine comp_mapM (fun z => z % 256) (SqL.of upd_same) (by rw [sizeLine_eq]; omega) (fun _ _ _ q => q) (fun z H' Q _ _ q => ⟨_, rfl, _, _, rfl, rfl, (by show (0 : Int) < 256; decide), q⟩) fun d hd => ?_
  have s4 := same_new hd (.lst ((zs.map fun z => z % 256).map V.int))
  refine ⟨l1, d, _, _, rfl, rfl, (s3.trans s4) _ _ upd_same, upd_same, by rw [List.length_map, List.length_map, sizeLine_eq]; show 1 + _ ≤ _; omega, fun r hr => ?_⟩
  have s5 := s1.trans (s2.trans (s3.trans (s4.trans (same_new hr (.lst ([.int 1] ++ (zs.map fun z => z % 256).map V.int))))))
  refine ⟨_, rfl, p, zs, rfl, s5.seq hS, hl, fun b H6 bs s6 xb hb hbl => ?_⟩
  have s7 := s5.trans s6
  have xr : H6 r = some (.lst ((1 :: zs.map fun z => z % 256).map V.int)) := s6 _ _ (by rw [upd_same, List.map_cons]; rfl)
  have hrl : (1 :: zs.map fun z => z % 256).length ≤ 64 := by
    rw [List.length_cons, List.length_map]
    omega
  generalize (1 :: zs.map fun z => z % 256) = rs at *
  refine ⟨fun σ' H' => ∃ (b : Addr) (bs : List Int), σ' = [some (.ref p), some (.int wy), some (.ref r), some (.ref b), none, none] ∧ Same H H' ∧ H' r = some (.lst (rs.map V.int)) ∧ H' b = some (.lst (bs.map V.int)) ∧ IsBits bs ∧ bs.length ≤ 4097, ?_, ?_⟩
  · refine PU.arm (PU.and (pu_eq (mi_var rfl) mi_c) (pu_op (mi_op (mi_cell (k := 1) rfl (s7.seq hS) mi_c rfl) mi_c (by show (0 : Int) < 3; decide)) mi_c)) (fun H8 s8 _ => ?_) fun H8 s8 _ => ⟨b, bs, rfl, s7.trans s8, s8 _ _ xr, s8 _ _ xb, hb, by omega⟩
    obtain ⟨j, hj⟩ : ∃ j : Nat, (4095 : Int) + ((zs[1]?).getD (0 : Int)) % 3 = (j : Int) := ⟨((4095 : Int) + ((zs[1]?).getD (0 : Int)) % 3).toNat, by omega⟩
    refine ml_set (ml_to (j := j) (ml_cat (mv_var rfl (s8 _ _ xb)) (ml_rep (j := 2049) (ml_lst (ma_cons mi_c (ma_cons mi_c ma_nil)) (by show 2 ≤ 500000; decide)).v mi_c rfl (by show 2 * 2049 ≤ 500000; decide) (by decide)).v ?_).v (mi_op0 mi_c (mi_op (mi_cell (k := 1) rfl ((s7.trans s8).seq hS) mi_c rfl) mi_c (by show (0 : Int) < 3; decide))) hj) fun b2 H9 _ s9 xb2 => ⟨b2, _, rfl, s7.trans (s8.trans s9), (s8.trans s9) _ _ xr, xb2, ?_, ?_⟩
    · rw [len_rep]
      show bs.length + 2049 * 2 ≤ 500000
      omega
    · intro x hx
      rcases List.mem_append.mp (List.mem_of_mem_take hx) with hx | hx
      · exact hb x hx
      · obtain ⟨l, hl, hx⟩ := List.mem_flatten.mp hx
        rw [(List.mem_replicate.mp hl).2] at hx
        simpa [or_comm] using hx
    · rw [List.length_take]
      omega
  clear xb hb hbl
  rintro σ' H8 ⟨b, bs, rfl, s8, xr, xb, hb, hbl⟩
  refine ⟨fun σ' H' => ∃ (r : Addr) (ms : List Int), σ' = [some (.ref p), some (.int wy), some (.ref r), some (.ref b), none, none] ∧ Same H H' ∧ H' r = some (.lst (ms.map V.int)) ∧ ms.length ≤ 800, ?_, ?_⟩
  · refine PU.arm (pu_op (mi_var rfl) mi_c) (fun H9 s9 _ => ?_) fun H9 s9 _ => ⟨r, rs, rfl, s8.trans s9, s9 _ _ xr, by omega⟩
    refine ⟨_, rfl, b, bs, rfl, SqL.of (s9 _ _ xb), hb, by omega, fun r2 H10 _ s10 x2 => ⟨r2, _, rfl, s8.trans (s9.trans s10), x2, ?_⟩⟩
    have hm : many bs.length ≤ 129 := by
      unfold many
      omega
    rw [rowO_LO hb, List.length_append, List.length_append, octs_length, LO_length]
    show 1 + 2 + _ ≤ _
    omega
  clear xr s8 xb
  rintro σ' H8 ⟨r, ms, rfl, s8, xr, hrl⟩
  refine ⟨fun σ' H' => ∃ (r : Addr) (ms : List Int) (k4 : Option V), σ' = [some (.ref p), some (.int wy), some (.ref r), some (.ref b), k4, none] ∧ Same H H' ∧ H' r = some (.lst (ms.map V.int)) ∧ ms.length ≤ 803, ?_, ?_⟩
  · refine PU.arm (pu_op (mi_var rfl) mi_c) (fun H9 s9 _ => ?_) fun H9 s9 _ => ⟨r, ms, _, rfl, s8.trans s9, s9 _ _ xr, by omega⟩
    have h3 : 0 ≤ ((zs[1]?).getD (0 : Int)) % 3 ∧ ((zs[1]?).getD (0 : Int)) % 3 < 3 := by omega
    refine ⟨_, rfl, p, zs, 1, rfl, (s8.trans s9).seq hS, _, _, rfl, rfl, (by show (0 : Int) < 3; decide), _, _, rfl, rfl, _, rfl, by omega, by omega, ?_⟩
    refine for_range (fun i σ' H' => ∃ (r : Addr) (ms : List Int) (k4 : Option V), σ' = [some (.ref p), some (.int wy), some (.ref r), some (.ref b), k4, none] ∧ Same H H' ∧ H' r = some (.lst (ms.map V.int)) ∧ ms.length ≤ 800 + i) ⟨r, ms, _, rfl, s8.trans s9, s9 _ _ xr, by omega⟩ ?_ ?_
    · rintro i σ' H10 hi ⟨r, ms, k4, rfl, s10, xr, hml⟩
      refine ⟨_, rfl, _, rfl, _, rfl, _, _, rfl, rfl, p, zs, 2 + i, ?_, s10.seq hS, r, ms, _, rfl, xr, by omega, fun r2 H11 ms2 s11 x2 hl2 => ⟨r2, ms2, _, rfl, s10.trans s11, x2, by omega⟩⟩
      show [V.ref p, V.int (2 + (0 + (i : Int)))] = _
      rw [show (2 : Int) + (0 + (i : Int)) = ((2 + i : Nat) : Int) by omega]
    · rintro σ' H10 ⟨r, ms, k4, rfl, s10, xr, hml⟩
      exact ⟨r, ms, k4, rfl, s10, xr, by omega⟩
  clear xr s8 hrl
  rintro σ' H8 ⟨r, ms, k4, rfl, s8, xr, hrl⟩
  refine ⟨fun σ' H' => ∃ (r : Addr) (ms : List Int) (k5 : Option V), σ' = [some (.ref p), some (.int wy), some (.ref r), some (.ref b), k4, k5] ∧ Same H H' ∧ H' r = some (.lst (ms.map V.int)) ∧ ms.length ≤ 1500, ?_, ?_⟩
  · refine PU.arm (PU.and (pu_eq (mi_var rfl) mi_c) (pu_op (mi_len (mv_var rfl xr)) mi_c)) (fun H9 s9 hc => ?_) fun H9 s9 _ => ⟨r, ms, _, rfl, s8.trans s9, s9 _ _ xr, by omega⟩
    have h2 : 2 < ms.length := by
      have := of_decide_eq_true (hc rfl).2
      omega
    obtain ⟨m, hm⟩ : ∃ m : Int, ms[1] + (256 : Int) * (ms[2] % (2 : Int)) = m := ⟨_, rfl⟩
    refine mi_set (MI.to (mi_op0 (mi_ixL (j := 1) (mv_var rfl (s9 _ _ xr)) mi_c rfl (List.getElem?_eq_getElem (by omega))) (mi_op mi_c (mi_op (mi_ixL (j := 2) (mv_var rfl (s9 _ _ xr)) mi_c rfl (List.getElem?_eq_getElem h2)) mi_c (by show (0 : Int) < 2; decide)) (.inl ⟨by decide, by decide⟩))) hm) fun H10 s10 => ?_
    have xr10 := s10 _ _ (s9 _ _ xr)
    obtain ⟨cs, ec, hcl⟩ := cut_any (ms.drop 3 ++ (List.replicate 200 [(0 : Int)]).flatten) none (some ((m + 31) / 32 * 6 + 2))
    rw [List.length_append, len_rep, List.length_drop] at hcl
    have hcl : cs.length ≤ 1100 := by
      have : [(0 : Int)].length = 1 := rfl
      omega
    refine ml_set (ml_cat (xs := [1] ++ [m % 256, m / 256]) (ml_cat (ml_lst (ma_cons mi_c ma_nil) (by show 1 ≤ 500000; decide)).v (ml_two (mi_var rfl)).v (by show 1 + 2 ≤ 500000; decide)).v (ml_sl (ms := cs) (ml_cat (ml_from (j := 3) (mv_var rfl xr10) mi_c rfl).v (ml_rep (j := 200) (ml_lst (ma_cons mi_c ma_nil) (by show 1 ≤ 500000; decide)).v mi_c rfl (by show 1 * 200 ≤ 500000; decide) (by decide)).v ?_).v mo_no (mo_part (mi_op0 (mi_op (mi_op (mi_op0 (mi_var rfl) mi_c) mi_c ⟨by decide, by decide⟩) mi_c (.inr ⟨by decide, by decide⟩)) mi_c)) ec).v ?_) fun r2 H11 _ s11 x2 => ⟨r2, _, _, rfl, s8.trans (s9.trans (s10.trans s11)), x2, ?_⟩
    · rw [len_rep, List.length_drop]
      show _ + 200 * 1 ≤ 500000
      omega
    · show 3 + cs.length ≤ _
      omega
    · rw [List.length_append]
      show 3 + cs.length ≤ _
      omega
  clear xr s8 hrl
  rintro σ' H8 ⟨r, ms, k5, rfl, s8, xr, hrl⟩
  refine ⟨fun σ' H' => ∃ (r : Addr) (ms : List Int), σ' = [some (.ref p), some (.int wy), some (.ref r), some (.ref b), k4, k5] ∧ Same H H' ∧ H' r = some (.lst (ms.map V.int)) ∧ ms.length ≤ 1500, ?_, ?_⟩
  · refine PU.arm (pu_eq (mi_var rfl) mi_c) (fun H9 s9 hc => ?_) fun H9 s9 _ => ⟨r, ms, rfl, s8.trans s9, s9 _ _ xr, by omega⟩
    exact ml_set (ml_lst (ma_cons mi_c (ma_cons (mi_op0 mi_c (mi_op (mi_cell (k := 1) rfl ((s8.trans s9).seq hS) mi_c rfl) mi_c (by show (0 : Int) < 256; decide))) (ma_cons (mi_op0 mi_c (mi_op (mi_cell (k := 2) rfl ((s8.trans s9).seq hS) mi_c rfl) mi_c (by show (0 : Int) < 240; decide))) ma_nil))) (by show 3 ≤ 500000; decide)) fun r2 H10 _ s10 x2 => ⟨r2, _, rfl, s8.trans (s9.trans s10), x2, by show 3 ≤ 1500; decide⟩
  clear xr s8 hrl
  rintro σ' H8 ⟨r, ms, rfl, s8, xr, hrl⟩
  refine ⟨fun σ' H' => ∃ (r : Addr) (ms : List Int), σ' = [some (.ref p), some (.int wy), some (.ref r), some (.ref b), k4, k5] ∧ Same H H' ∧ H' r = some (.lst (ms.map V.int)) ∧ ms.length ≤ 1500, ?_, ?_⟩
  · refine PU.arm (pu_eq (mi_op (mi_cell (k := 5) rfl (s8.seq hS) mi_c rfl) mi_c (by show (0 : Int) < 9; decide)) mi_c) (fun H9 s9 hc => ?_) fun H9 s9 _ => ⟨r, ms, rfl, s8.trans s9, s9 _ _ xr, by omega⟩
    exact ml_set (ml_lst (ms := []) ma_nil (by show 0 ≤ 500000; decide)) fun r2 H10 _ s10 x2 => ⟨r2, _, rfl, s8.trans (s9.trans s10), x2, by show 0 ≤ 1500; decide⟩
  clear xr s8 hrl
  rintro σ' H8 ⟨r, ms, rfl, s8, xr, hrl⟩
  exact ⟨_, rfl, q r _ ms s8 xr hrl⟩
theorem flat_cut {m : Nat} : ∀ (xs : List Int) (k : Nat) (x : Int), xs[k]? = some x → ((xs.flatMap fun x => octs x m).drop (m * k)).take m = octs x m
  | [], k, x, h => by simp at h
  | y :: r, 0, x, h => by
    cases h
    rw [Nat.mul_zero, List.drop_zero, List.flatMap_cons, List.take_append, octs_length, Nat.sub_self, List.take_zero, List.append_nil, List.take_of_length_le (by rw [octs_length]; exact Nat.le_refl _)]
  | y :: r, k + 1, x, h => by
    rw [List.flatMap_cons, show m * (k + 1) = (octs y m).length + m * k by rw [octs_length, Nat.mul_succ, Nat.add_comm], List.drop_append, List.drop_of_length_le (Nat.le_add_right _ _), List.nil_append, Nat.add_sub_cancel_left]
    exact flat_cut r k x (by simpa using h)
theorem blkAt_range {ns : List Int} (hb : IsBits ns) (k : Nat) : 0 ≤ blkAt ns k ∧ blkAt ns k < 256 ^ 4 := by
  have hsb : IsBits ((ns.drop (32 * k)).take 32) := fun x hx => hb x (List.mem_of_mem_drop (List.mem_of_mem_take hx))
  refine ⟨blk_nonneg hsb, ?_⟩
  have h3 := blk_lt hsb
  have hl : ((ns.drop (32 * k)).take 32).length ≤ 32 := by
    rw [List.length_take]
    omega
  have h4 : (2 : Int) ^ ((ns.drop (32 * k)).take 32).length ≤ 2 ^ 32 := by
    have := Nat.pow_le_pow_right (show 0 < 2 by decide) hl
    have e : ∀ n : Nat, (2 : Int) ^ n = ((2 ^ n : Nat) : Int) := fun n => by simp
    rw [e, e]
    omega
  have h5 : (2 : Int) ^ 32 = 256 ^ 4 := by decide
  show blk ((ns.drop (32 * k)).take 32) < _
  omega
/-- octets that begin as rows and trees written do -/
def fro (t : Int) (ns rest : List Int) : List Int := [t] ++ octs (ns.length : Int) 2 ++ ((packs ns).flatMap (fun x => octs x 4) ++ rest)
theorem fro_count {t : Int} {ns rest : List Int} : ((fro t ns rest).drop 1).take 2 = octs (ns.length : Int) 2 := by
  unfold fro
  rw [List.append_assoc]
  show (octs (ns.length : Int) 2 ++ _).take 2 = _
  rw [List.take_append, octs_length, Nat.sub_self, List.take_zero, List.append_nil, List.take_of_length_le (by rw [octs_length]; exact Nat.le_refl _)]
theorem fro_three (t : Int) (ns rest : List Int) : (fro t ns rest).drop 3 = (packs ns).flatMap (fun x => octs x 4) ++ rest := by
  have h3 : ([t] ++ octs (ns.length : Int) 2).length = 3 := by rw [List.length_append, octs_length]; rfl
  unfold fro
  rw [List.drop_append, h3, List.drop_of_length_le (by rw [h3]; omega), List.nil_append, Nat.sub_self, List.drop_zero]
theorem fro_length (t : Int) (ns rest : List Int) : (fro t ns rest).length = 3 + 4 * many ns.length + rest.length := by
  unfold fro
  rw [List.length_append, List.length_append, List.length_append, octs_length, flat_len, packs_length]
  show 1 + 2 + _ = _
  omega
theorem fro_block {t : Int} {ns rest : List Int} {k : Nat} (hk : k < many ns.length) : ((fro t ns rest).drop (3 + 4 * k)).take 4 = octs (blkAt ns k) 4 := by
  have hp := packs_get hk
  have hpl := packs_length ns
  rw [← List.drop_drop, fro_three]
  have hfl : ((packs ns).flatMap fun x => octs x 4).length = 4 * many ns.length := by rw [flat_len, hpl]
  rw [List.drop_append, hfl, show 4 * k - 4 * many ns.length = 0 by omega, List.drop_zero, List.take_append]
  rw [show 4 - (((packs ns).flatMap fun x => octs x 4).drop (4 * k)).length = 0 by rw [List.length_drop, hfl]; omega, List.take_zero, List.append_nil]
  exact flat_cut _ k _ hp
theorem fro_toldN {t : Int} {ns rest : List Int} (hl : ns.length ≤ 65535) : toldN (fro t ns rest) = ns.length := by
  unfold toldN
  rw [fro_count, valO_octs _ _ (by omega) (by show (ns.length : Int) < 65536; omega), Int.toNat_natCast]
theorem fro_nums {t : Int} {ns rest : List Int} (hb : IsBits ns) : numsO (fro t ns rest) ns.length = packs ns := by
  unfold numsO
  refine List.ext_getElem? fun k => ?_
  by_cases hk : k < many ns.length
  · rw [List.getElem?_map, List.getElem?_range hk, packs_get hk]
    have hb' := blkAt_range hb k
    rw [Option.map_some, fro_block hk, valO_octs _ _ hb'.1 (by have := hb'.2; exact this)]
  · rw [List.getElem?_eq_none (by rw [List.length_map, List.length_range]; omega), List.getElem?_eq_none (by rw [packs_length]; omega)]
theorem fro_toldB {t : Int} {ns rest : List Int} (hb : IsBits ns) (hl : ns.length ≤ 65535) : toldB (fro t ns rest) = ns := by
  unfold toldB
  rw [fro_toldN hl, fro_nums hb, unp_packs hb]
theorem fro_ok {t : Int} {ns rest : List Int} (hl : ns.length ≤ 65535) : ToldOk (fro t ns rest) := by
  unfold ToldOk
  rw [fro_toldN hl, fro_length]
  omega
/-- the bits of octets -/
def un8 (xs : List Int) : List Int := xs.flatMap fun b => bits b 8
theorem un8_snoc (bs : List Int) (b : Int) : un8 (bs ++ [b]) = un8 bs ++ bits b 8 := by simp [un8]
theorem un8_length : ∀ bs : List Int, (un8 bs).length = 8 * bs.length
  | [] => rfl
  | b :: r => by
    have := un8_length r
    simp only [un8, List.flatMap_cons, List.length_append, bits_length, List.length_cons] at this ⊢
    omega
theorem un8_get : ∀ (bs : List Int) (i : Nat), (un8 bs)[i]? = (bs[i / 8]?).map fun b => bit b (i % 8)
  | [], i => by simp [un8]
  | b :: r, i => by
    show (bits b 8 ++ un8 r)[i]? = _
    by_cases hi : i < 8
    · rw [List.getElem?_append_left (by rw [bits_length]; exact hi), bits_get hi]
      have e1 : i / 8 = 0 := by omega
      have e2 : i % 8 = i := by omega
      rw [e1, e2]
      rfl
    · rw [List.getElem?_append_right (by rw [bits_length]; omega), bits_length, un8_get r (i - 8)]
      have e1 : i / 8 = (i - 8) / 8 + 1 := by omega
      have e2 : i % 8 = (i - 8) % 8 := by omega
      rw [e1, e2, List.getElem?_cons_succ]
theorem un8_bits (xs : List Int) : IsBits (un8 xs) := fun x hx => by
  obtain ⟨o, _, h⟩ := List.mem_flatMap.mp hx
  unfold bits at h
  obtain ⟨k, _, rfl⟩ := List.mem_map.mp h
  exact bit_cases o k
theorem bit_oct8 {ns : List Int} (h : IsBits ns) (j k : Nat) (hk : k < 8) : bit (oct8 ns j) k = (ns[8 * j + k]?).getD 0 := by
  unfold oct8
  rw [bit_blk ((h.drop _).take _), List.getElem?_take_of_lt hk, List.getElem?_drop]
/-- the bits that the octets from the fourth on tell, by eights -/
def dec8 (os : List Int) : List Int := (un8 ((os.drop 3).take ((min (toldN os) 4096 + 7) / 8))).take (toldN os)
theorem dec8_bits (os : List Int) : IsBits (dec8 os) := (un8_bits _).take _
theorem dec8_length (os : List Int) : (dec8 os).length ≤ 4096 := by
  unfold dec8
  rw [List.length_take, un8_length, List.length_take]
  omega
theorem fro_dec8 {t : Int} {ns rest : List Int} (hb : IsBits ns) (hl : ns.length ≤ 4096) : dec8 (fro t ns rest) = ns := by
  unfold dec8
  rw [fro_toldN (by omega), fro_three, Nat.min_eq_left hl]
  have e : (packs ns).flatMap (fun x => octs x 4) = (List.range (4 * many ns.length)).map (oct8 ns) := blocks_octs hb _
  have hm : (ns.length + 7) / 8 ≤ 4 * many ns.length := by
    unfold many
    omega
  have el : ((List.range (4 * many ns.length)).map (oct8 ns)).length = 4 * many ns.length := by rw [List.length_map, List.length_range]
  rw [e, List.take_append_of_le_length (by rw [el]; exact hm)]
  refine List.ext_getElem? fun i => ?_
  by_cases hi : i < ns.length
  · rw [List.getElem?_take_of_lt hi, un8_get, List.getElem?_take_of_lt (by omega), List.getElem?_map, List.getElem?_range (by omega), Option.map_some, Option.map_some, bit_oct8 hb _ _ (by omega), show 8 * (i / 8) + i % 8 = i by omega, List.getElem?_eq_getElem hi]
    rfl
  · rw [List.getElem?_eq_none (by rw [List.length_take]; omega), List.getElem?_eq_none (by omega)]
theorem rowO_fro (ns : List Int) : rowO ns = fro 1 ns ((ahd ns (many ns.length)).flatMap fun x => octs x 2) := rfl

theorem good_dec {os : List Int} (h : GoodO os) : dec8 os = toldB os ∧ rowO (dec8 os) = os := by
  have hb : IsBits (toldB os) := fun y hy => isBits_unp _ y (List.mem_of_mem_take hy)
  have e := h.2.2.2
  have e1 : dec8 os = toldB os := by
    rw [← e, rowO_fro, fro_dec8 hb h.2.2.1, fro_toldB hb (by have := h.2.2.1; omega)]
  exact ⟨e1, by rw [e1, e]⟩
theorem dec_good {os : List Int} (ho : OctOk os) (h : rowO (dec8 os) = os) : GoodO os := by
  have hb := dec8_bits os
  have hl := dec8_length os
  have e1 : toldB os = dec8 os := by
    rw [← h, rowO_fro, fro_toldB hb (by omega), ← rowO_fro, h]
  refine ⟨ho, ?_, by rw [e1]; exact hl, by rw [e1]; exact h⟩
  rw [← h, rowO_fro]
  exact fro_ok (by omega)
def sp_due : Sp := fun vs H Q _ => ∃ (p : Addr) (os : List Int), vs = [.ref p] ∧ H p = some (.lst (os.map V.int)) ∧ os.length ≤ 2000 ∧
  (GoodO os → ∀ r H', Same H H' → H' r = some (.lst ((toldB os).map V.int)) → Q (.ref r) H') ∧ (¬ GoodO os → ∀ r H', Same H H' → H' r = some RF → Q (.ref r) H')
theorem ok_law_due (T : Tx K mg a) : FnOk P w K mg base CX0 3 a.f_law_due a.fd_law_due ["_law_octets_here"] sp_due := by
  refine T.D_law_due.F.ok sc_law_due (fun vs H Q E h => ?_) (fun cdv A outer s H vs Q E hr h => ?_)
  · obtain ⟨p, os, rfl, _⟩ := h
    rfl
  obtain ⟨p, os, rfl, hp, hl, q, qE⟩ := h
  refine ⟨_, (pss_cons (ps_if (PW.pt (pw_or (pt_cmpR op_lt (pe_callB call_len_seq rfl T.b_len Tw.bt_len (pa_cons (pv 0) pa_nil)) pe_int (nomark _)) (pw_or1 (pt_cmpR (op_neD hr.units) (pe_comp rfl CompOk.zero (pi_list (pv 0)) (fun _ _ _ _ => (pts_one (PW.pt (pw_or (pt_cmpR op_lt (pv 0) pe_int (nomark _)) (pw_or1 (pt_cmpR op_gt (pv 0) pe_int (nomark _))))))) (fun _ _ _ _ => (pv 0))) (pe_lst pa_nil) (nomark _))))) (pss_one (ps_ret (pe_tup (pa_cons pe_int (pa_cons pe_bl (pa_cons pe_bl (pa_cons pe_bl pa_nil))))))) pss_nil)
    (pss_cons (ps_set (i := 1) sc_law_due.nd rfl (Or.inl rfl) (pe_op op_add (pe_ix ix_list (pv 0) pe_int (fun _ _ => rfl)) (pe_op op_mul pe_int (pe_ix ix_list (pv 0) pe_int (fun _ _ => rfl)))))
    (pss_cons (ps_set (i := 2) sc_law_due.nd rfl (Or.inl rfl) (pe_lst pa_nil))
    (pss_cons (ps_for PassesOwn.never rfl (pi_list (pe_slice sl_list (pv 0) (po_some pe_int) (po_some (pe_op op_add pe_int (pe_op op_fdiv (pe_op op_add (pe_callB (call_min2 rfl) rfl T.b_min Tw.bt_min (pa_cons (pv 1) (pa_cons pe_int pa_nil))) pe_int) pe_int))))) (pg_name (i := 3) sc_law_due.nd rfl (Or.inl rfl)) (pss_one (ps_for PassesOwn.never rfl (pi_range1 rfl T.b_range (pa_cons pe_int pa_nil)) (pg_name (i := 4) sc_law_due.nd rfl (Or.inl rfl)) (pss_cons (ps_expr (pe_bm PySem.F.plainAttrs_list PySem.F.slot_list_append PySem.F.type_list_append mt_append (pv 2) (pa_cons (pe_op op_mod (pv 3) pe_int) pa_nil)))
    (pss_one (ps_set (i := 3) sc_law_due.nd rfl (Or.inl rfl) (pe_op op_fdiv (pv 3) pe_int)))))))
    (pss_cons (ps_set (i := 2) sc_law_due.nd rfl (Or.inl rfl) (pe_slice sl_list (pv 2) po_none (po_some (pv 1))))
    (pss_cons (ps_if (pt_cmpR (op_neD hr.units) (pe_cD T.D_law_written (ok_law_written T) (by decide) hr pass0 rfl (pa_cons (pv 2) pa_nil)) (pv 0) (nomark _)) (pss_one (ps_ret (pe_tup (pa_cons pe_int (pa_cons pe_bl (pa_cons pe_bl (pa_cons pe_bl pa_nil))))))) pss_nil)
    (pss_one (ps_ret (pv 2))))))))), ?_⟩
  have ern : (os.map V.int).length = os.length := List.length_map ..
  refine ⟨_, rfl, p, _, rfl, .inl (SqL.of hp), _, _, rfl, rfl, _, rfl, ite2 (fun c => ?_) fun c => ?_⟩
  · have c : (((os.map V.int).length : Nat) : Int) < 3 := of_decide_eq_true c
    refine iteT ⟨(by show 4 ≤ sizeLine; decide), fun r hr => qE (fun g => ?_) r _ (same_new hr _) (by rw [upd_same]; rfl)⟩
    have := g.2.1.1
    omega
  have c : ¬ ((((os.map V.int).length : Nat) : Int) < 3) := fun z => c (decide_eq_true z)
  have h3 : 3 ≤ os.length := by omega
  refine ⟨_, rfl, p, rfl, ⟨_, SqL.of hp⟩, ?_⟩
  refine comp_filtS (fun z => decide (z < 0) || decide (255 < z)) (SqL.of hp) (by rw [sizeLine_eq]; omega) (fun z H' Q _ q => ?_) (fun z H' Q _ q => ⟨_, rfl, q⟩) fun D hD => ?_
  · refine ⟨_, rfl, _, _, rfl, rfl, _, rfl, ?_⟩
    by_cases e0 : z < 0
    · rw [decide_eq_true e0] at q ⊢
      exact iteT q
    · rw [decide_eq_false e0] at q ⊢
      exact iteF ⟨_, rfl, _, _, rfl, rfl, _, rfl, q⟩
  have s1 := same_new hD (.lst ((os.filter (fun z => decide (z < 0) || decide (255 < z))).map V.int))
  refine ⟨(by show 0 ≤ sizeLine; decide), fun l hl2 => .inl ⟨D, l, _, [], rfl, rfl, SqL.of (same_new hl2 _ _ _ upd_same), SqL.of upd_same, _, rfl, ?_⟩⟩
  have s2 := s1.trans (same_new hl2 (.lst []))
  have eo : os.filter (fun z => decide (z < 0) || decide (255 < z)) = [] ↔ OctOk os := by
    rw [List.filter_eq_nil_iff]
    refine forall_congr' fun z => forall_congr' fun _ => ?_
    simp
  by_cases ho : OctOk os
  rotate_left
  · refine ite2 (fun _ => ?_) fun y => absurd ?_ y
    · refine ⟨(by show 4 ≤ sizeLine; decide), fun r hr => qE (fun g => ho g.1) r _ (s2.trans (same_new hr _)) (by rw [upd_same]; rfl)⟩
    · rw [decide_eq_false (fun z => ho (eo.mp z))]
      rfl
  refine iteNS (eo.mpr ho) ?_
  have en : os[1] + 256 * os[2] = ((toldN os : Nat) : Int) := by
    unfold toldN
    have e2 : (os.drop 1).take 2 = [os[1], os[2]] := by
      rw [List.drop_eq_getElem_cons (by omega), List.drop_eq_getElem_cons (by omega)]
      rfl
    have h1 := ho os[1] (List.getElem_mem _)
    have h2 := ho os[2] (List.getElem_mem _)
    rw [e2]
    show _ = (((256 * (256 * 0 + os[2]) + os[1]).toNat : Nat) : Int)
    omega
  have hp2 := s2 _ _ hp
  generalize upd (upd H D _) l _ = H2 at *
  refine mi_set (MI.to (mi_op0 (mi_ixL (j := 1) (mv_var rfl hp2) mi_c rfl (List.getElem?_eq_getElem (by omega))) (mi_op mi_c (mi_ixL (j := 2) (mv_var rfl hp2) mi_c rfl (List.getElem?_eq_getElem (by omega))) (.inl ⟨by decide, by decide⟩))) en) fun H3 s3 => ?_
  refine ⟨(by show 0 ≤ sizeLine; decide), fun b hb0 => ?_⟩
  have s4 := s2.trans (s3.trans (same_new hb0 (.lst [])))
  have hbH : H b = none := (s2.trans s3).free hb0
  have em : (3 : Int) + ((if (4096 : Int) < ((toldN os : Nat) : Int) then (4096 : Int) else ((toldN os : Nat) : Int)) + 7) / 8 = ((3 + (min (toldN os) 4096 + 7) / 8 : Nat) : Int) := by
    by_cases z : (4096 : Int) < ((toldN os : Nat) : Int)
    · rw [if_pos z, Nat.min_eq_right (by omega)]
      rfl
    · rw [if_neg z, Nat.min_eq_left (by omega)]
      omega
  refine ⟨_, rfl, _, rfl, _, rfl, _, _, rfl, _, _, rfl, rfl, _, _, rfl, rfl, ⟨by decide, by decide⟩, _, _, rfl, rfl, _, rfl, p, _, rfl, SqL.of (s4 _ _ hp), fun c hc => ⟨c, rfl, ⟨_, SqL.of upd_same⟩, ?_⟩⟩
  have ec : cutV (os.map V.int) (some 3) (some ((3 : Int) + ((if (4096 : Int) < ((toldN os : Nat) : Int) then (4096 : Int) else ((toldN os : Nat) : Int)) + 7) / 8)) = ((os.drop 3).take ((min (toldN os) 4096 + 7) / 8)).map V.int := by
    rw [em, show (3 : Int) = ((3 : Nat) : Int) from rfl, cut_nat, Nat.add_sub_cancel_left]
  rw [ec]
  have ed : (un8 ((os.drop 3).take ((min (toldN os) 4096 + 7) / 8))).take (toldN os) = dec8 os := rfl
  have hgl : ((os.drop 3).take ((min (toldN os) 4096 + 7) / 8)).length ≤ 2000 := by
    rw [List.length_take, List.length_drop]
    omega
  generalize (os.drop 3).take ((min (toldN os) 4096 + 7) / 8) = gs at *
  have nbc : b ≠ c := ne_of_none upd_same hc
  refine for_list (xs := gs.map V.int) (fun i σ X => (∃ k3 k4, σ = [some (.ref p), some (.int ((toldN os : Nat) : Int)), some (.ref b), k3, k4]) ∧ Same H X ∧ X c = some (.lst (gs.map V.int)) ∧ X b = some (.lst ((un8 (gs.take i)).map V.int))) ⟨⟨none, none, rfl⟩, s4.trans (same_new hc _), upd_same, by rw [upd_ne nbc, upd_same]; rfl⟩ ?_ ?_ ?_
  · rintro i σ X _ ⟨_, _, h, _⟩
    exact SqL.of h
  · rintro i x σ X hx ⟨⟨k3, k4, rfl⟩, sX, xc, xb⟩
    obtain ⟨z, hz, rfl⟩ := int_at hx
    have hi := (List.getElem?_eq_some_iff.mp hz).1
    refine ⟨_, rfl, by decide, by decide, ?_⟩
    refine for_range (fun j σ X => (∃ k4, σ = [some (.ref p), some (.int ((toldN os : Nat) : Int)), some (.ref b), some (.int (z / 2 ^ j)), k4]) ∧ Same H X ∧ X c = some (.lst (gs.map V.int)) ∧ X b = some (.lst ((un8 (gs.take i) ++ bits z j).map V.int))) ⟨⟨k4, by rw [Int.pow_zero, Int.ediv_one]; rfl⟩, sX, xc, by rw [xb]; simp [bits]⟩ ?_ ?_
    · rintro j σ X hj ⟨⟨k4, rfl⟩, sX, xc, xb⟩
      have hj : j < 8 := hj
      refine ⟨_, rfl, .inl ⟨rfl, _, SqL.of xb⟩, _, rfl, _, _, rfl, rfl, (by show (0 : Int) < 2; decide), b, _, _, rfl, rfl, xb, ?_, ?_⟩
      · rw [List.length_map, List.length_append, un8_length, bits_length, List.length_take, sizeLine_eq]
        omega
      · refine ⟨_, rfl, _, _, rfl, rfl, ⟨by decide, by decide⟩, ⟨some (.int (0 + (j : Int))), ?_⟩, same_set sX hbH _, by rw [upd_ne (Ne.symm nbc)]; exact xc, ?_⟩
        · rw [← half_half]
          rfl
        · rw [upd_same, bits_succ, ← List.append_assoc, List.map_append (l₂ := [bit z j])]
          rfl
    · rintro σ X ⟨⟨k4, rfl⟩, sX, xc, xb⟩
      refine ⟨⟨_, _, rfl⟩, sX, xc, ?_⟩
      rw [List.take_add_one, hz, Option.toList_some, un8_snoc]
      exact xb
  rintro σ X ⟨⟨k3, k4, rfl⟩, sX, xc, xb⟩
  rw [List.length_map, List.take_length] at xb
  refine ⟨_, rfl, _, rfl, _, rfl, b, _, rfl, SqL.of xb, fun d hd => ?_⟩
  rw [cut_to, ed]
  have s5 := sX.trans (same_new hd (.lst ((dec8 os).map V.int)))
  refine ⟨_, rfl, d, dec8 os, rfl, SqL.of upd_same, dec8_bits os, by have := dec8_length os; omega, fun r H6 hr6 s6 x6 => ⟨_, rfl, .inl ⟨r, p, _, _, rfl, rfl, SqL.of x6, SqL.of ((s5.trans s6) _ _ hp), _, rfl, ?_⟩⟩⟩
  by_cases hg : rowO (dec8 os) = os
  · refine iteNS hg ?_
    have hgood := dec_good ho hg
    exact ⟨_, rfl, q hgood d _ (s5.trans s6) (by rw [s6 _ _ upd_same, (good_dec hgood).1])⟩
  · refine ite2 (fun _ => ?_) fun y => absurd ?_ y
    · exact ⟨(by show 4 ≤ sizeLine; decide), fun r hr => qE (fun g => hg (good_dec g).2) r _ ((s5.trans s6).trans (same_new hr _)) (by rw [upd_same]; rfl)⟩
    · rw [decide_eq_false hg]
      rfl
theorem ne_lst {K : PySem.W.Frag} {H : Hp} {r1 r2 : Addr} {ns : List Int} {Q : VK} (o1 : H r1 = some (.lst (ns.map V.int))) (o2 : H r2 = some (.lst (ns.map V.int))) (q : Q (.bl false) H) : rNeL K (.ref r1) (.ref r2) H Q ∨ rNeP K (.ref r1) (.ref r2) H Q := by
  refine .inl ⟨r1, r2, _, _, rfl, rfl, SqL.of o1, SqL.of o2, ?_⟩
  rw [decide_eq_true rfl]
  exact q
theorem eq_lst {K : PySem.W.Frag} {H : Hp} {r1 r2 : Addr} {ns : List Int} {Q : VK} (o1 : H r1 = some (.lst (ns.map V.int))) (o2 : H r2 = some (.lst (ns.map V.int))) (q : Q (.bl true) H) : rEqL K (.ref r1) (.ref r2) H Q ∨ rEqP K (.ref r1) (.ref r2) H Q := by
  refine .inl ⟨r1, r2, _, _, rfl, rfl, SqL.of o1, SqL.of o2, ?_⟩
  rw [decide_eq_true rfl]
  exact q
theorem ne_rf {K : PySem.W.Frag} {H : Hp} {r1 r2 : Addr} {Q : VK} (o1 : H r1 = some RF) (o2 : H r2 = some RF) (q : Q (.bl false) H) : rNeL K (.ref r1) (.ref r2) H Q ∨ rNeP K (.ref r1) (.ref r2) H Q := by
  refine .inr ⟨_, _, .tup (SqT.of o1) (.cons (.int _) (.cons (.bl _) (.cons (.bl _) (.cons (.bl _) .nil)))), .tup (SqT.of o2) (.cons (.int _) (.cons (.bl _) (.cons (.bl _) (.cons (.bl _) .nil)))), (tup4_same _ _ _ _).1, (tup4_same _ _ _ _).1, ?_⟩
  rw [(tup4_same _ _ _ _).2]
  exact q
theorem eq_rf {K : PySem.W.Frag} {H : Hp} {r1 r2 : Addr} {Q : VK} (o1 : H r1 = some RF) (o2 : H r2 = some RF) (q : Q (.bl true) H) : rEqL K (.ref r1) (.ref r2) H Q ∨ rEqP K (.ref r1) (.ref r2) H Q := by
  refine .inr ⟨_, _, .tup (SqT.of o1) (.cons (.int _) (.cons (.bl _) (.cons (.bl _) (.cons (.bl _) .nil)))), .tup (SqT.of o2) (.cons (.int _) (.cons (.bl _) (.cons (.bl _) (.cons (.bl _) .nil)))), (tup4_same _ _ _ _).1, (tup4_same _ _ _ _).1, ?_⟩
  rw [(tup4_same _ _ _ _).2]
  exact q
def sp_law (K : PySem.W.Frag) : Sp := fun vs H Q _ => ∃ (s : Addr) (ns : List Int), vs = [.ref s] ∧ SqL K H s (ns.map V.int) ∧ ns.length ≤ 63 ∧ ∀ H', Q (.bl true) H'
theorem ok_law (T : Tx K mg a) : FnOk P w K mg base CX0 10 a.f_law a.fd_law ["_law_script"] (sp_law K) := by
  refine T.D_law.F.ok sc_law (fun vs H Q E h => ?_) (fun cdv A outer s H vs Q E hr h => ?_)
  · obtain ⟨b, f, rfl, _⟩ := h
    rfl
  obtain ⟨sa, zs, rfl, hS, hl, q⟩ := h
  refine ⟨_, (pss_cons (ps_set (i := 1) sc_law.nd rfl (Or.inl rfl) (pe_cD T.D_law_octets (ok_law_octets T) (by decide) hr pass0 rfl (pa_cons (pv 0) pa_nil)))
    (pss_cons (ps_set (i := 2) sc_law.nd rfl (Or.inl rfl) (pe_callTy call_list_of rfl T.b_list Tw.bt_list (pa_cons (pv 1) pa_nil)))
    (pss_cons (ps_set (i := 3) sc_law.nd rfl (Or.inl rfl) (pe_cD T.D_law_due (ok_law_due T) (by decide) hr pass0 rfl (pa_cons (pv 1) pa_nil)))
    (pss_cons (ps_set (i := 4) sc_law.nd rfl (Or.inl rfl) (pe_cD T.D_law_told (ok_law_told T) (by decide) hr pass0 rfl (pa_cons (pv 2) pa_nil)))
    (pss_cons (ps_if (PW.pt (pw_or (pt_cmpR (op_neD hr.units) (pv 4) (pv 3) (nomark _)) (pw_or1 (pt_cmpR (op_neD hr.units) (pv 2) (pv 1) (nomark _))))) (pss_one (ps_ret pe_bl)) pss_nil)
    (pss_cons (ps_if (pt_val (pe_callB call_isi rfl T.b_isinstance Tw.bt_isinstance (pa_cons (pv 4) (pa_cons (pe_bltn (v := .ty "list") rfl T.b_list Tw.bt_list rfl) pa_nil)))) (pss_cons (ps_if (pt_cmpR (op_neD hr.units) (pe_cD T.D_row_octets (ok_row_octets T) (by decide) hr passNC rfl (pa_cons (pe_callTy call_list_of rfl T.b_list Tw.bt_list (pa_cons (pv 4) pa_nil)) pa_nil)) (pv 1) (nomark _)) (pss_one (ps_ret pe_bl)) pss_nil)
    (pss_one (ps_expr (pe_bm PySem.F.plainAttrs_list PySem.F.slot_list_append PySem.F.type_list_append mt_append (pv 4) (pa_cons pe_int pa_nil))))) pss_nil)
    (pss_one (ps_ret (pe_cmpR (op_eqD hr.units) (pe_cD T.D_law_told (ok_law_told T) (by decide) hr pass0 rfl (pa_cons (pv 2) pa_nil)) (pv 3) (nomark _)))))))))), ?_⟩
  refine ⟨_, rfl, sa, zs, rfl, hS, hl, fun ra H1 os s1 x1 hol => ?_⟩
  refine ⟨_, rfl, ra, _, rfl, .inl (SqL.of x1), fun hd hhd => ?_⟩
  have s2 := same_new hhd (.lst (os.map V.int))
  have x2 := s2 _ _ x1
  have y2 : upd H1 hd (.lst (os.map V.int)) hd = some (.lst (os.map V.int)) := upd_same
  generalize upd H1 hd (.lst (os.map V.int)) = H2 at *
  by_cases hg : GoodO os
  · refine ⟨_, rfl, ra, os, rfl, x2, by omega, fun _ du H3 s3 x3 => ?_, fun n => absurd hg n⟩
    refine ⟨_, rfl, hd, os, rfl, s3 _ _ y2, by omega, fun _ f H4 hf s4 x4 => ?_, fun n => absurd hg n⟩
    refine ⟨_, rfl, _, rfl, ne_lst x4 (s4 _ _ x3) ⟨_, rfl, iteF ?_⟩⟩
    refine ⟨_, rfl, _, rfl, ne_lst ((s3.trans s4) _ _ y2) ((s3.trans s4) _ _ x2) ⟨_, rfl, iteF ?_⟩⟩
    refine ⟨_, rfl, _, "list", _, true, rfl, .lst x4, rfl, true, rfl, iteT ?_⟩
    refine ⟨_, rfl, f, _, rfl, .inl (SqL.of x4), fun g hgn => ?_⟩
    have s5 := same_new hgn (.lst ((toldB os).map V.int))
    have hbits : IsBits (toldB os) := fun y hy => isBits_unp _ y (List.mem_of_mem_take hy)
    refine ⟨g, toldB os, rfl, SqL.of upd_same, .inl ⟨hg.2.2.1, hbits, fun r5 H5 _ s6 x6 => ⟨_, rfl, ?_⟩⟩⟩
    rw [hg.2.2.2] at x6
    refine ne_lst x6 ((s3.trans (s4.trans (s5.trans s6))) _ _ x2) ⟨_, rfl, iteF ?_⟩
    have x7 := (s5.trans s6) _ _ x4
    refine ⟨_, rfl, .inl ⟨rfl, _, SqL.of x7⟩, f, _, _, rfl, rfl, x7, by rw [List.length_map, sizeLine_eq]; have := hg.2.2.1; omega, ?_⟩
    have s8 : Same H3 (upd H5 f (.lst ((toldB os).map V.int ++ [.int 1]))) := same_set (s4.trans (s5.trans s6)) hf _
    generalize upd H5 f (.lst ((toldB os).map V.int ++ [.int 1])) = H8 at *
    exact ⟨_, rfl, hd, os, rfl, (s3.trans s8) _ _ y2, by omega, fun _ f2 H9 _ s9 x9 => ⟨_, rfl, eq_lst x9 ((s8.trans s9) _ _ x3) (q _)⟩, fun n => absurd hg n⟩
  · refine ⟨_, rfl, ra, os, rfl, x2, by omega, fun n => absurd n hg, fun _ du H3 s3 x3 => ?_⟩
    refine ⟨_, rfl, hd, os, rfl, s3 _ _ y2, by omega, fun n => absurd n hg, fun _ f H4 hf s4 x4 => ?_⟩
    refine ⟨_, rfl, _, rfl, ne_rf x4 (s4 _ _ x3) ⟨_, rfl, iteF ?_⟩⟩
    refine ⟨_, rfl, _, rfl, ne_lst ((s3.trans s4) _ _ y2) ((s3.trans s4) _ _ x2) ⟨_, rfl, iteF ?_⟩⟩
    refine ⟨_, rfl, _, "list", _, false, rfl, .tup x4, rfl, false, rfl, iteF ?_⟩
    exact ⟨_, rfl, hd, os, rfl, (s3.trans s4) _ _ y2, by omega, fun n => absurd n hg, fun _ f2 H9 _ s9 x9 => ⟨_, rfl, eq_rf x9 ((s4.trans s9) _ _ x3) (q _)⟩⟩
end
theorem all_mk {l : PySem.W.OpenLaw} {w : World} {K : PySem.W.Frag} {h : Heap} {mg : Str → Option Value} {fa f0 f1 f2 f3 f4 f5 f6 f7 f8 f9 f10 f11 f12 f13 f14 f15 f16 f17 f18 f19 f20 f21 f22 f23 f24 f25 f26 f27 f28 f29 f30 f31 : Addr} {e0 e1 e2 e3 e4 e5 e6 e7 e8 e9 e10 e11 e12 e13 e14 e15 e16 e17 e18 e19 e20 e21 e22 e23 e24 e25 e26 e27 e28 e29 e30 e31 : FuncData} {tt_BLOCK_BITS tt_BLOCK_OCTETS tt_COUNT_OCTETS tt_MOST_BITS tt_ROW : Tok} {c_NoBit c_NoNode c_NoOctets c_NoPlace c_NoSign c_NoTree c_NoWord c_TooMany c_Twice c_WoodError : Addr} (X : K.In h) (G : h.Ns mainGlobals mg) (hfa : mg "law" = some (.ref fa))
    (d0 : FI K "packed" s_packed f0 e0)
    (d1 : FI K "check_row" s_check_row f1 e1)
    (d2 : FI K "block_of" s_block_of f2 e2)
    (d3 : FI K "unpacked" s_unpacked f3 e3)
    (d4 : FI K "bit_in" s_bit_in f4 e4)
    (d5 : FI K "bits_of" s_bits_of f5 e5)
    (d6 : FI K "ones_in" s_ones_in f6 e6)
    (d7 : FI K "octets_of" s_octets_of f7 e7)
    (d8 : FI K "number_of" s_number_of f8 e8)
    (d9 : FI K "kept_row" s_kept_row f9 e9)
    (d10 : FI K "ahead_of" s_ahead_of f10 e10)
    (d11 : FI K "numbers_octets" s_numbers_octets f11 e11)
    (d12 : FI K "bits_octets" s_bits_octets f12 e12)
    (d13 : FI K "row_octets" s_row_octets f13 e13)
    (d14 : FI K "read_row" s_read_row f14 e14)
    (d15 : FI K "read_as" s_read_as f15 e15)
    (d16 : FI K "check_octets" s_check_octets f16 e16)
    (d17 : FI K "number_at" s_number_at f17 e17)
    (d18 : FI K "numbers_at" s_numbers_at f18 e18)
    (d19 : FI K "block_total" s_block_total f19 e19)
    (d20 : FI K "bits_at" s_bits_at f20 e20)
    (d21 : FI K "told_bits" s_told_bits f21 e21)
    (d22 : FI K "_law_cell_at" s_law_cell_at f22 e22)
    (d23 : FI K "_law_whole" s_law_whole f23 e23)
    (d24 : FI K "_law_bits" s_law_bits f24 e24)
    (d25 : FI K "_law_two" s_law_two f25 e25)
    (d26 : FI K "_law_written" s_law_written f26 e26)
    (d27 : FI K "_law_due" s_law_due f27 e27)
    (d28 : FI K "_law_told" s_law_told f28 e28)
    (d29 : FI K "_law_changed" s_law_changed f29 e29)
    (d30 : FI K "_law_octets" s_law_octets f30 e30)
    (d31 : FI K "law" s_law f31 e31)
    (z_ValueError : PySem.W.nsIn K mainGlobals "ValueError" = some none)
    (z_bool : PySem.W.nsIn K mainGlobals "bool" = some none)
    (z_int : PySem.W.nsIn K mainGlobals "int" = some none)
    (z_isinstance : PySem.W.nsIn K mainGlobals "isinstance" = some none)
    (z_len : PySem.W.nsIn K mainGlobals "len" = some none)
    (z_list : PySem.W.nsIn K mainGlobals "list" = some none)
    (z_min : PySem.W.nsIn K mainGlobals "min" = some none)
    (z_range : PySem.W.nsIn K mainGlobals "range" = some none)
    (z_reversed : PySem.W.nsIn K mainGlobals "reversed" = some none)
    (z_sum : PySem.W.nsIn K mainGlobals "sum" = some none)
    (z_tuple : PySem.W.nsIn K mainGlobals "tuple" = some none)
    (g_BLOCK_BITS : PySem.W.nsIn K mainGlobals "BLOCK_BITS" = some (some (.int 32 tt_BLOCK_BITS)))
    (g_BLOCK_OCTETS : PySem.W.nsIn K mainGlobals "BLOCK_OCTETS" = some (some (.int 4 tt_BLOCK_OCTETS)))
    (g_COUNT_OCTETS : PySem.W.nsIn K mainGlobals "COUNT_OCTETS" = some (some (.int 2 tt_COUNT_OCTETS)))
    (g_MOST_BITS : PySem.W.nsIn K mainGlobals "MOST_BITS" = some (some (.int 4096 tt_MOST_BITS)))
    (g_ROW : PySem.W.nsIn K mainGlobals "ROW" = some (some (.int 1 tt_ROW)))
    (q_NoBit : PySem.W.nsIn K mainGlobals "NoBit" = some (some (.ref c_NoBit)))
    (q_NoNode : PySem.W.nsIn K mainGlobals "NoNode" = some (some (.ref c_NoNode)))
    (q_NoOctets : PySem.W.nsIn K mainGlobals "NoOctets" = some (some (.ref c_NoOctets)))
    (q_NoPlace : PySem.W.nsIn K mainGlobals "NoPlace" = some (some (.ref c_NoPlace)))
    (q_NoSign : PySem.W.nsIn K mainGlobals "NoSign" = some (some (.ref c_NoSign)))
    (q_NoTree : PySem.W.nsIn K mainGlobals "NoTree" = some (some (.ref c_NoTree)))
    (q_NoWord : PySem.W.nsIn K mainGlobals "NoWord" = some (some (.ref c_NoWord)))
    (q_TooMany : PySem.W.nsIn K mainGlobals "TooMany" = some (some (.ref c_TooMany)))
    (q_Twice : PySem.W.nsIn K mainGlobals "Twice" = some (some (.ref c_Twice)))
    (q_WoodError : PySem.W.nsIn K mainGlobals "WoodError" = some (some (.ref c_WoodError)))
    (ex_NoBit : PySem.W.excIn K c_NoBit bmV "ValueError.__new__" = true)
    (ed_NoBit : PySem.W.hasDictIn K c_NoBit = true)
    (ega_NoBit : PySem.W.findIn K (.ref c_NoBit) "__getattribute__" = some (some (.builtin "BaseException.__getattribute__")))
    (eng_NoBit : PySem.W.findIn K (.ref c_NoBit) "__getattr__" = some none)
    (ecl_NoBit : PySem.W.findIn K (.ref c_NoBit) "__class__" = some (some (.builtin "object.__class__")))
    (egt_NoBit : PySem.W.specialIn K (.builtin "object.__class__") "__get__" = some (some (.builtin "getset_descriptor.__get__")))
    (etk_NoBit : PySem.W.takesIn K (.builtin "object.__class__") = some true)
    (emo_NoBit : PySem.W.mroIn K c_NoBit (.type "object") = some true)
    (emb_NoBit : PySem.W.mroIn K c_NoBit (.type "BaseException") = some true)
    (i_NoBit_NoBit : PySem.W.kitOne K (.ref c_NoBit) (.ref c_NoBit) = some true)
    (i_NoBit_NoNode : PySem.W.kitOne K (.ref c_NoBit) (.ref c_NoNode) = some false)
    (i_NoBit_NoOctets : PySem.W.kitOne K (.ref c_NoBit) (.ref c_NoOctets) = some false)
    (i_NoBit_NoPlace : PySem.W.kitOne K (.ref c_NoBit) (.ref c_NoPlace) = some false)
    (i_NoBit_NoSign : PySem.W.kitOne K (.ref c_NoBit) (.ref c_NoSign) = some false)
    (i_NoBit_NoTree : PySem.W.kitOne K (.ref c_NoBit) (.ref c_NoTree) = some false)
    (i_NoBit_NoWord : PySem.W.kitOne K (.ref c_NoBit) (.ref c_NoWord) = some false)
    (i_NoBit_TooMany : PySem.W.kitOne K (.ref c_NoBit) (.ref c_TooMany) = some false)
    (i_NoBit_Twice : PySem.W.kitOne K (.ref c_NoBit) (.ref c_Twice) = some false)
    (i_NoBit_WoodError : PySem.W.kitOne K (.ref c_NoBit) (.ref c_WoodError) = some true)
    (i_NoBit_ValueError : PySem.W.kitOne K (.ref c_NoBit) (.type "ValueError") = some true)
    (ex_NoOctets : PySem.W.excIn K c_NoOctets bmV "ValueError.__new__" = true)
    (ed_NoOctets : PySem.W.hasDictIn K c_NoOctets = true)
    (ega_NoOctets : PySem.W.findIn K (.ref c_NoOctets) "__getattribute__" = some (some (.builtin "BaseException.__getattribute__")))
    (eng_NoOctets : PySem.W.findIn K (.ref c_NoOctets) "__getattr__" = some none)
    (ecl_NoOctets : PySem.W.findIn K (.ref c_NoOctets) "__class__" = some (some (.builtin "object.__class__")))
    (egt_NoOctets : PySem.W.specialIn K (.builtin "object.__class__") "__get__" = some (some (.builtin "getset_descriptor.__get__")))
    (etk_NoOctets : PySem.W.takesIn K (.builtin "object.__class__") = some true)
    (emo_NoOctets : PySem.W.mroIn K c_NoOctets (.type "object") = some true)
    (emb_NoOctets : PySem.W.mroIn K c_NoOctets (.type "BaseException") = some true)
    (i_NoOctets_NoBit : PySem.W.kitOne K (.ref c_NoOctets) (.ref c_NoBit) = some false)
    (i_NoOctets_NoNode : PySem.W.kitOne K (.ref c_NoOctets) (.ref c_NoNode) = some false)
    (i_NoOctets_NoOctets : PySem.W.kitOne K (.ref c_NoOctets) (.ref c_NoOctets) = some true)
    (i_NoOctets_NoPlace : PySem.W.kitOne K (.ref c_NoOctets) (.ref c_NoPlace) = some false)
    (i_NoOctets_NoSign : PySem.W.kitOne K (.ref c_NoOctets) (.ref c_NoSign) = some false)
    (i_NoOctets_NoTree : PySem.W.kitOne K (.ref c_NoOctets) (.ref c_NoTree) = some false)
    (i_NoOctets_NoWord : PySem.W.kitOne K (.ref c_NoOctets) (.ref c_NoWord) = some false)
    (i_NoOctets_TooMany : PySem.W.kitOne K (.ref c_NoOctets) (.ref c_TooMany) = some false)
    (i_NoOctets_Twice : PySem.W.kitOne K (.ref c_NoOctets) (.ref c_Twice) = some false)
    (i_NoOctets_WoodError : PySem.W.kitOne K (.ref c_NoOctets) (.ref c_WoodError) = some true)
    (i_NoOctets_ValueError : PySem.W.kitOne K (.ref c_NoOctets) (.type "ValueError") = some true)
    (ex_TooMany : PySem.W.excIn K c_TooMany bmV "ValueError.__new__" = true)
    (ed_TooMany : PySem.W.hasDictIn K c_TooMany = true)
    (ega_TooMany : PySem.W.findIn K (.ref c_TooMany) "__getattribute__" = some (some (.builtin "BaseException.__getattribute__")))
    (eng_TooMany : PySem.W.findIn K (.ref c_TooMany) "__getattr__" = some none)
    (ecl_TooMany : PySem.W.findIn K (.ref c_TooMany) "__class__" = some (some (.builtin "object.__class__")))
    (egt_TooMany : PySem.W.specialIn K (.builtin "object.__class__") "__get__" = some (some (.builtin "getset_descriptor.__get__")))
    (etk_TooMany : PySem.W.takesIn K (.builtin "object.__class__") = some true)
    (emo_TooMany : PySem.W.mroIn K c_TooMany (.type "object") = some true)
    (emb_TooMany : PySem.W.mroIn K c_TooMany (.type "BaseException") = some true)
    (i_TooMany_NoBit : PySem.W.kitOne K (.ref c_TooMany) (.ref c_NoBit) = some false)
    (i_TooMany_NoNode : PySem.W.kitOne K (.ref c_TooMany) (.ref c_NoNode) = some false)
    (i_TooMany_NoOctets : PySem.W.kitOne K (.ref c_TooMany) (.ref c_NoOctets) = some false)
    (i_TooMany_NoPlace : PySem.W.kitOne K (.ref c_TooMany) (.ref c_NoPlace) = some false)
    (i_TooMany_NoSign : PySem.W.kitOne K (.ref c_TooMany) (.ref c_NoSign) = some false)
    (i_TooMany_NoTree : PySem.W.kitOne K (.ref c_TooMany) (.ref c_NoTree) = some false)
    (i_TooMany_NoWord : PySem.W.kitOne K (.ref c_TooMany) (.ref c_NoWord) = some false)
    (i_TooMany_TooMany : PySem.W.kitOne K (.ref c_TooMany) (.ref c_TooMany) = some true)
    (i_TooMany_Twice : PySem.W.kitOne K (.ref c_TooMany) (.ref c_Twice) = some false)
    (i_TooMany_WoodError : PySem.W.kitOne K (.ref c_TooMany) (.ref c_WoodError) = some true)
    (i_TooMany_ValueError : PySem.W.kitOne K (.ref c_TooMany) (.type "ValueError") = some true)
    (ex_WoodError : PySem.W.excIn K c_WoodError bmV "ValueError.__new__" = true)
    (ed_WoodError : PySem.W.hasDictIn K c_WoodError = true)
    (ega_WoodError : PySem.W.findIn K (.ref c_WoodError) "__getattribute__" = some (some (.builtin "BaseException.__getattribute__")))
    (eng_WoodError : PySem.W.findIn K (.ref c_WoodError) "__getattr__" = some none)
    (ecl_WoodError : PySem.W.findIn K (.ref c_WoodError) "__class__" = some (some (.builtin "object.__class__")))
    (egt_WoodError : PySem.W.specialIn K (.builtin "object.__class__") "__get__" = some (some (.builtin "getset_descriptor.__get__")))
    (etk_WoodError : PySem.W.takesIn K (.builtin "object.__class__") = some true)
    (emo_WoodError : PySem.W.mroIn K c_WoodError (.type "object") = some true)
    (emb_WoodError : PySem.W.mroIn K c_WoodError (.type "BaseException") = some true)
    (i_WoodError_NoBit : PySem.W.kitOne K (.ref c_WoodError) (.ref c_NoBit) = some false)
    (i_WoodError_NoNode : PySem.W.kitOne K (.ref c_WoodError) (.ref c_NoNode) = some false)
    (i_WoodError_NoOctets : PySem.W.kitOne K (.ref c_WoodError) (.ref c_NoOctets) = some false)
    (i_WoodError_NoPlace : PySem.W.kitOne K (.ref c_WoodError) (.ref c_NoPlace) = some false)
    (i_WoodError_NoSign : PySem.W.kitOne K (.ref c_WoodError) (.ref c_NoSign) = some false)
    (i_WoodError_NoTree : PySem.W.kitOne K (.ref c_WoodError) (.ref c_NoTree) = some false)
    (i_WoodError_NoWord : PySem.W.kitOne K (.ref c_WoodError) (.ref c_NoWord) = some false)
    (i_WoodError_TooMany : PySem.W.kitOne K (.ref c_WoodError) (.ref c_TooMany) = some false)
    (i_WoodError_Twice : PySem.W.kitOne K (.ref c_WoodError) (.ref c_Twice) = some false)
    (i_WoodError_WoodError : PySem.W.kitOne K (.ref c_WoodError) (.ref c_WoodError) = some true)
    (i_WoodError_ValueError : PySem.W.kitOne K (.ref c_WoodError) (.type "ValueError") = some true) :
    ∃ fd : FuncData, (∀ (s : Shared) (v : Value), BindsTo s fd ⟨[v], []⟩ [("_law_script", v)]) ∧ ∀ base : Heap, K.In base → base.Ns mainGlobals mg → FnOk l.prog w K mg base CX0 10 fa fd ["_law_script"] (sp_law K) := by
  have e := hfa.symm.trans (PySem.W.mg_of X G d31.a)
  cases e
  obtain ⟨_, _, _, _, _, _, _, _, _, rfl, _, _⟩ := d31.F.ex
  have T : Tx K mg ⟨_, _, _, _, _, _, _, _, _, _, _, _, _, _, _, _, _, _, _, _, _, _, _, _, _, _, _, _, _, _, _, _, _, _, _, _, _, _, _, _, _, _, _, _, _, _, _, _, _, _, _, _, _, _, _, _, _, _, _, _, _, _, _, _, _, _, _, _, _, c_NoBit, c_NoNode, c_NoOctets, c_NoPlace, c_NoSign, c_NoTree, c_NoWord, c_TooMany, c_Twice, c_WoodError⟩ := ⟨df1 X G d0 fun _ _ _ _ _ _ _ => rfl, df1 X G d1 fun _ _ _ _ _ _ _ => rfl, df1 X G d2 fun _ _ _ _ _ _ _ => rfl, df2 X G d3 fun _ _ _ _ _ _ _ _ => rfl, df2 X G d4 fun _ _ _ _ _ _ _ _ => rfl, df2 X G d5 fun _ _ _ _ _ _ _ _ => rfl, df2 X G d6 fun _ _ _ _ _ _ _ _ => rfl, df2 X G d7 fun _ _ _ _ _ _ _ _ => rfl, df1 X G d8 fun _ _ _ _ _ _ _ => rfl, df1 X G d9 fun _ _ _ _ _ _ _ => rfl, df1 X G d10 fun _ _ _ _ _ _ _ => rfl, df2 X G d11 fun _ _ _ _ _ _ _ _ => rfl, df2 X G d12 fun _ _ _ _ _ _ _ _ => rfl, df1 X G d13 fun _ _ _ _ _ _ _ => rfl, df1 X G d14 fun _ _ _ _ _ _ _ => rfl, df3 X G d15 fun _ _ _ _ _ _ _ _ _ => rfl, df1 X G d16 fun _ _ _ _ _ _ _ => rfl, df3 X G d17 fun _ _ _ _ _ _ _ _ _ => rfl, df4 X G d18 fun _ _ _ _ _ _ _ _ _ _ => rfl, df1 X G d19 fun _ _ _ _ _ _ _ => rfl, df3 X G d20 fun _ _ _ _ _ _ _ _ _ => rfl, df1 X G d21 fun _ _ _ _ _ _ _ => rfl, df2 X G d22 fun _ _ _ _ _ _ _ _ => rfl, df1 X G d23 fun _ _ _ _ _ _ _ => rfl, df1 X G d24 fun _ _ _ _ _ _ _ => rfl, df1 X G d25 fun _ _ _ _ _ _ _ => rfl, df1 X G d26 fun _ _ _ _ _ _ _ => rfl, df1 X G d27 fun _ _ _ _ _ _ _ => rfl, df1 X G d28 fun _ _ _ _ _ _ _ => rfl, df2 X G d29 fun _ _ _ _ _ _ _ _ => rfl, df1 X G d30 fun _ _ _ _ _ _ _ => rfl, df1 X G d31 fun _ _ _ _ _ _ _ => rfl, PySem.W.mg_none_of X G z_ValueError, PySem.W.mg_none_of X G z_bool, PySem.W.mg_none_of X G z_int, PySem.W.mg_none_of X G z_isinstance, PySem.W.mg_none_of X G z_len, PySem.W.mg_none_of X G z_list, PySem.W.mg_none_of X G z_min, PySem.W.mg_none_of X G z_range, PySem.W.mg_none_of X G z_reversed, PySem.W.mg_none_of X G z_sum, PySem.W.mg_none_of X G z_tuple, PySem.W.mg_of X G g_BLOCK_BITS, PySem.W.mg_of X G g_BLOCK_OCTETS, PySem.W.mg_of X G g_COUNT_OCTETS, PySem.W.mg_of X G g_MOST_BITS, PySem.W.mg_of X G g_ROW, PySem.W.mg_of X G q_NoBit, PySem.W.mg_of X G q_NoNode, PySem.W.mg_of X G q_NoOctets, PySem.W.mg_of X G q_NoPlace, PySem.W.mg_of X G q_NoSign, PySem.W.mg_of X G q_NoTree, PySem.W.mg_of X G q_NoWord, PySem.W.mg_of X G q_TooMany, PySem.W.mg_of X G q_Twice, PySem.W.mg_of X G q_WoodError, ⟨PySem.W.mg_of X G q_NoBit, ex_NoBit⟩, ⟨ed_NoBit, ega_NoBit, eng_NoBit, ecl_NoBit, egt_NoBit, etk_NoBit, emo_NoBit, emb_NoBit⟩, i_NoBit_NoBit, i_NoBit_NoNode, i_NoBit_NoOctets, i_NoBit_NoPlace, i_NoBit_NoSign, i_NoBit_NoTree, i_NoBit_NoWord, i_NoBit_TooMany, i_NoBit_Twice, i_NoBit_WoodError, i_NoBit_ValueError, ⟨PySem.W.mg_of X G q_NoOctets, ex_NoOctets⟩, ⟨ed_NoOctets, ega_NoOctets, eng_NoOctets, ecl_NoOctets, egt_NoOctets, etk_NoOctets, emo_NoOctets, emb_NoOctets⟩, i_NoOctets_NoBit, i_NoOctets_NoNode, i_NoOctets_NoOctets, i_NoOctets_NoPlace, i_NoOctets_NoSign, i_NoOctets_NoTree, i_NoOctets_NoWord, i_NoOctets_TooMany, i_NoOctets_Twice, i_NoOctets_WoodError, i_NoOctets_ValueError, ⟨PySem.W.mg_of X G q_TooMany, ex_TooMany⟩, ⟨ed_TooMany, ega_TooMany, eng_TooMany, ecl_TooMany, egt_TooMany, etk_TooMany, emo_TooMany, emb_TooMany⟩, i_TooMany_NoBit, i_TooMany_NoNode, i_TooMany_NoOctets, i_TooMany_NoPlace, i_TooMany_NoSign, i_TooMany_NoTree, i_TooMany_NoWord, i_TooMany_TooMany, i_TooMany_Twice, i_TooMany_WoodError, i_TooMany_ValueError, ⟨PySem.W.mg_of X G q_WoodError, ex_WoodError⟩, ⟨ed_WoodError, ega_WoodError, eng_WoodError, ecl_WoodError, egt_WoodError, etk_WoodError, emo_WoodError, emb_WoodError⟩, i_WoodError_NoBit, i_WoodError_NoNode, i_WoodError_NoOctets, i_WoodError_NoPlace, i_WoodError_NoSign, i_WoodError_NoTree, i_WoodError_NoWord, i_WoodError_TooMany, i_WoodError_Twice, i_WoodError_WoodError, i_WoodError_ValueError⟩
  exact ⟨_, fun s v => .of_eq rfl, fun base _ _ => ok_law T⟩
end Tw
namespace Tp
open PySem
noncomputable section
abbrev O := Params → Obj
def sq (l : List Str) : Nat → List Value := @List.rec Str (fun _ => Nat → List Value) (fun _ => []) (fun s _ ih t => Value.str s t :: ih (Nat.add t 1)) l
def ap {α : Type} (a b : List α) : List α := @List.rec α (fun _ => List α) b (fun x _ r => x :: r) a
def tk {α : Type} (l : List α) : Nat → List α := @List.rec α (fun _ => Nat → List α) (fun _ => []) (fun x _ ih n => @Nat.rec (fun _ => List α) [] (fun m _ => x :: ih m) n) l
def mp {α β : Type} (f : α → β) (l : List α) : List β := @List.rec α (fun _ => List β) [] (fun x _ r => f x :: r) l
def ov (l : List O) : List (Nat × O) → List O := @List.rec O (fun _ => List (Nat × O) → List O) (fun _ => []) (fun x _ ih ex => @List.rec (Nat × O) (fun _ => List O) (x :: ih []) (fun e r _ => @Nat.rec (fun _ => List O) (e.2 :: ih r) (fun g _ => x :: ih ((g, e.2) :: r)) e.1) ex) l
def ev (l : List Obj) : Bool → List Obj := @List.rec Obj (fun _ => Bool → List Obj) (fun _ => []) (fun x _ ih b => @Bool.rec (fun _ => List Obj) (ih true) (x :: ih false) b) l
def bt (n : Nat) : List Obj → PySem.W.BT := @Nat.rec (fun _ => List Obj → PySem.W.BT) (fun _ => .nil) (fun _ ih l => @List.rec Obj (fun _ => PySem.W.BT) .nil (fun x xs _ => .node x (ih (ev xs true)) (ih (ev xs false))) l) n
def Z (s : Str) (t : Nat) (v : Value) (P : Params) : DictEntry := .mk (PyData.keyHash P s) (.str s t) v
def E (s : Str) (t r : Nat) (P : Params) : DictEntry := .mk (PyData.keyHash P s) (.str s t) (.ref r)
def gd (l : List (Params → DictEntry)) (n : Nat) (P : Params) : Obj := .mk (.type "dict") none (.dict (mp (fun e => e P) l).toArray n) #[]
def tb (l : List (Nat × Nat)) (P : Params) : Obj := .mk .none none (.fields (@List.rec (Nat × Nat) (fun _ => List Value) [] (fun x _ r => .int (Int.ofNat x.1) 0 :: .int 0 0 :: .ref x.2 :: r) l).toArray) #[]
def h0 (x0 : Nat) (x1 : Nat) (x2 : Nat) (x3 : Str) : List O := [fun P => (.mk (.type "tuple") none (.seq #[(.ref 24)] 0) #[]), fun P => (.mk (.type "builtin_function_or_method") none (.fields #[(.builtin "type.__prepare__"), (.type "type")]) #[]), fun P => (.mk (.type "dict") none (.dict #[(.mk (PyData.keyHash P "__module__") (.str "__module__" (Nat.add x0 7)) (.str "thinwood.errors" 187)), (.mk (PyData.keyHash P "__qualname__") (.str "__qualname__" (Nat.add x0 9)) (.str x3 (Nat.add x0 8))), (.mk (PyData.keyHash P "__firstlineno__") (.str "__firstlineno__" (Nat.add x0 11)) (.int (Int.ofNat x1) (Nat.add x0 10))), (.mk (PyData.keyHash P "__static_attributes__") (.str "__static_attributes__" (Nat.add x0 12)) (.ref (Nat.add x2 7)))] 4) #[]), fun P => (.mk (.type "tuple") none (.seq #[] 0) #[]), fun P => (.mk .none none (.fields #[]) #[]), fun P => (.mk (.type "code") none (.fields #[(.str x3 (Nat.add x0 2)), (.str x3 (Nat.add x0 3)), (.str "/claim/cut.py" (Nat.add x0 4)), (.int (Int.ofNat x1) 0), (.int 0 0), (.int 0 0), (.int 0 0), (.int 0 0), (.ref (Nat.add x2 3)), (.bool .false), (.int 181 0), (.ref (Nat.add x2 4)), .none, .none, .none, .none, (.int (Int.ofNat (Nat.add x0 5)) 0), (.int (Int.ofNat x1) 0), (.str "/claim/cut.py" (Nat.add x0 6))]) #[]), fun P => (.mk (.type "frame") none .plain #[(some (.ref (Nat.add x2 5))), (some (.ref 3)), (some (.ref (Nat.add x2 2))), none, (some (.str "thinwood.errors" 187)), none, (some (.ref 0))]), fun P => (.mk (.type "tuple") none (.seq #[] 0) #[]), fun P => (.mk (.type "dict") none (.dict #[(.mk (PyData.keyHash P "__module__") (.str "__module__" (Nat.add x0 7)) (.str "thinwood.errors" 187)), (.mk (PyData.keyHash P "__firstlineno__") (.str "__firstlineno__" (Nat.add x0 11)) (.int (Int.ofNat x1) (Nat.add x0 10))), (.mk (PyData.keyHash P "__static_attributes__") (.str "__static_attributes__" (Nat.add x0 12)) (.ref (Nat.add x2 7))), (.mk (PyData.keyHash P "__doc__") (.str "__doc__" (Nat.add x0 13)) .none)] 2) #[]), fun P => (.mk (.type "type") none (.cls (.mk x3 [(.ref 24)] [(.ref (Nat.add x2 9)), (.ref 24), (.type "ValueError"), (.type "Exception"), (.type "BaseException"), (.type "object")] (Nat.add x2 8) x3 .true [] [] .false none .false)) #[(some (.ref x2)), none, (some (.str x3 x0)), (some (.str x3 (Nat.add x0 8))), (some (.builtin "ValueError.__new__")), (some (.bool .true))]), fun P => (.mk (.type "super") none (.fields #[(.ref (Nat.add x2 9)), (.ref (Nat.add x2 9)), (.ref (Nat.add x2 9))]) #[]), fun P => (.mk (.type "builtin_function_or_method") none (.fields #[(.builtin "object.__init_subclass__"), (.ref (Nat.add x2 9))]) #[])]
def h1 (x0 : Nat) (x1 : Nat) (x2 : Nat) (x3 : Nat) (x4 : Nat) (x5 : Nat) (x6 : Str) (x7 : Str) : List O := [fun P => (.mk (.type "tuple") none (.seq #[] 0) #[]), fun P => (.mk .none none (.fields #[]) #[]), fun P => (.mk .none none (.func (FuncData.mk x6 x6 (L2.defArgs (Tw.top x0)) (FuncBody.stmts (L2.defBody (Tw.top x0))) (L2.defScope (Tw.top x0)) 0 [] .none .none .none .none none .none .none 0)) #[]), fun P => (.mk (.type "code") none (.fields #[(.str x6 x1), (.str x6 (Nat.add x1 1)), (.str "/claim/cut.py" (Nat.add x1 2)), (.int (Int.ofNat x2) 0), (.int (Int.ofNat x3) 0), (.int 0 0), (.int 0 0), (.int 3 0), (.ref x4), (.bool .true), (.int 181 0), (.ref (Nat.add x4 1)), .none, .none, .none, (.ref (Nat.add x4 2)), (.int (Int.ofNat (Nat.add x1 3)) 0), (.int (Int.ofNat x2) 0), (.str "/claim/cut.py" (Nat.add x1 4))]) #[]), fun P => (.mk (.type "function") none (.func (FuncData.mk x6 x6 (L2.defArgs (Tw.top x0)) (FuncBody.stmts (L2.defBody (Tw.top x0))) (L2.defScope (Tw.top x0)) 3 [] .none .none .none (.str x7 x5) none (.ref (Nat.add x4 3)) .none 0)) #[])]
def h2 (x0 : Nat) (x1 : Nat) (x2 : Nat) (x3 : Nat) (x4 : Nat) (x5 : Nat) (x6 : Nat) (x7 : List Str) (x8 : Str) (x9 : Str) : List O := [fun P => (.mk (.type "tuple") none (.seq #[] 0) #[]), fun P => (.mk .none none (.fields #[]) #[]), fun P => (.mk (.type "tuple") none (.seq (sq x7 (Nat.add x0 3)).toArray 0) #[]), fun P => (.mk (.type "tuple") none (.seq #[] 0) #[]), fun P => (.mk .none none (.func (FuncData.mk x8 x8 (L2.defArgs (Tw.top x1)) (FuncBody.stmts (L2.defBody (Tw.top x1))) (L2.defScope (Tw.top x1)) 0 [] .none .none .none .none none .none .none 0)) #[]), fun P => (.mk (.type "code") none (.fields #[(.str x8 x0), (.str x8 (Nat.add x0 1)), (.str "/claim/cut.py" (Nat.add x0 2)), (.int (Int.ofNat x2) 0), (.int (Int.ofNat x3) 0), (.int 0 0), (.int 0 0), (.int 3 0), (.ref x4), (.bool .true), (.int 181 0), (.ref (Nat.add x4 1)), .none, (.ref (Nat.add x4 2)), (.ref (Nat.add x4 3)), (.ref (Nat.add x4 4)), (.int (Int.ofNat x5) 0), (.int (Int.ofNat x2) 0), (.str "/claim/cut.py" (Nat.add x5 1))]) #[]), fun P => (.mk (.type "function") none (.func (FuncData.mk x8 x8 (L2.defArgs (Tw.top x1)) (FuncBody.stmts (L2.defBody (Tw.top x1))) (L2.defScope (Tw.top x1)) 3 [] .none .none .none (.str x9 x6) none (.ref (Nat.add x4 5)) .none 0)) #[])]
def g0 : List (Params → DictEntry) := [Z "__doc__" 166 .none, Z "__package__" 167 .none, Z "__loader__" 168 (.builtin "__main__.__loader__#opaque"), Z "__spec__" 169 .none, E "__annotations__" 170 6, E "__builtins__" 171 4, Z "__file__" 173 (.str "/claim/cut.py" 172), Z "__cached__" 174 .none, E "WoodError" 206 24, E "TooMany" 222 37]
def g1 : List (Params → DictEntry) := [E "NoBit" 238 49, E "NoPlace" 254 61, E "NoNode" 270 73, E "NoTree" 286 85, E "NoSign" 302 97, E "NoWord" 318 109, E "Twice" 334 121, E "NoOctets" 350 133, Z "BLOCK_BITS" 354 (.int 32 353), Z "MOST_BITS" 356 (.int 4096 355)]
def g2 : List (Params → DictEntry) := [E "packed" 362 140, E "check_row" 370 147, E "block_of" 379 154, E "unpacked" 389 161, E "bit_in" 397 168, E "bits_of" 403 173, E "ones_in" 411 180, E "octets_of" 424 187, E "number_of" 433 194, E "kept_row" 443 201]
def g3 : List (Params → DictEntry) := [E "ahead_of" 452 208, Z "ROW" 456 (.int 1 455), Z "COUNT_OCTETS" 458 (.int 2 457), Z "BLOCK_OCTETS" 460 (.int 4 459), E "numbers_octets" 470 215, E "bits_octets" 478 222, E "row_octets" 486 229, E "read_row" 493 236, E "read_as" 504 243, E "check_octets" 512 250]
def g4 : List (Params → DictEntry) := [E "number_at" 521 257, E "numbers_at" 527 262, E "block_total" 534 269, E "bits_at" 543 276, E "told_bits" 550 283, E "_law_cell_at" 560 290, E "_law_whole" 567 297, E "_law_bits" 579 304, E "_law_two" 586 311, E "_law_written" 598 318]
def g5 : List (Params → DictEntry) := [E "_law_due" 604 323, E "_law_told" 610 328, E "_law_changed" 622 335, E "_law_octets" 628 340, E "law" 639 347]
def gg : List (Params → DictEntry) := ap g0 (ap g1 (ap g2 (ap g3 (ap g4 (g5)))))
def tt : List (Nat × Nat) := [(2, 20), (4, 33), (6, 45), (8, 57), (10, 69), (12, 81), (14, 93), (16, 105), (18, 117), (20, 129), (25, 139), (28, 146), (34, 153), (39, 160), (46, 167), (48, 172), (50, 179), (53, 186), (60, 193), (66, 200), (69, 207), (78, 214), (83, 221), (85, 228), (88, 235), (90, 242), (100, 249), (104, 256), (108, 261), (110, 268), (112, 275), (114, 282), (117, 289), (121, 296), (123, 303), (133, 310), (135, 317), (150, 322), (163, 327), (176, 334), (194, 339), (213, 346)]
def s0 : O := gd (Z "__name__" 165 (.str "law_thinwood_k85_rows_read" 551) :: tk gg 55) 56
def l0 : O := fun P => (.mk (.type "tuple") none (.seq #[] 0) #[])
def s1 : O := tb (tk tt 42)
def l1 : O := fun P => (.mk (.type "code") none (.fields #[(.str "<module>" 182), (.str "<module>" 183), (.str "/claim/cut.py" 184), (.int 1 0), (.int 0 0), (.int 0 0), (.int 0 0), (.int 0 0), (.ref 11), (.bool .false), (.int 181 0), (.ref 12), .none, .none, .none, .none, (.int 185 0), (.int 1 0), (.str "/claim/cut.py" 186)]) #[])
def l2 : O := fun P => (.mk (.type "frame") none .plain #[(some (.ref 13)), (some (.ref 3)), (some (.ref 3)), none, (some (.str "__main__" 164)), none, (some (.ref 0))])
def l3 : O := fun P => (.mk (.type "tuple") none (.seq #[(.type "ValueError")] 0) #[])
def l4 : O := fun P => (.mk (.type "builtin_function_or_method") none (.fields #[(.builtin "type.__prepare__"), (.type "type")]) #[])
def l5 : O := fun P => (.mk (.type "dict") none (.dict #[(.mk (PyData.keyHash P "__module__") (.str "__module__" 196) (.str "thinwood.errors" 187)), (.mk (PyData.keyHash P "__qualname__") (.str "__qualname__" 198) (.str "WoodError" 197)), (.mk (PyData.keyHash P "__firstlineno__") (.str "__firstlineno__" 200) (.int 2 199)), (.mk (PyData.keyHash P "__static_attributes__") (.str "__static_attributes__" 201) (.ref 22))] 4) #[])
def l6 : O := fun P => (.mk .none none (.fields #[]) #[])
def l7 : O := fun P => (.mk (.type "code") none (.fields #[(.str "WoodError" 191), (.str "WoodError" 192), (.str "/claim/cut.py" 193), (.int 2 0), (.int 0 0), (.int 0 0), (.int 0 0), (.int 0 0), (.ref 18), (.bool .false), (.int 181 0), (.ref 19), .none, .none, .none, .none, (.int 194 0), (.int 2 0), (.str "/claim/cut.py" 195)]) #[])
def l8 : O := fun P => (.mk (.type "frame") none .plain #[(some (.ref 20)), (some (.ref 3)), (some (.ref 17)), none, (some (.str "thinwood.errors" 187)), none, (some (.ref 0))])
def l9 : O := fun P => (.mk (.type "dict") none (.dict #[(.mk (PyData.keyHash P "__module__") (.str "__module__" 196) (.str "thinwood.errors" 187)), (.mk (PyData.keyHash P "__firstlineno__") (.str "__firstlineno__" 200) (.int 2 199)), (.mk (PyData.keyHash P "__static_attributes__") (.str "__static_attributes__" 201) (.ref 22)), (.mk (PyData.keyHash P "__weakref__") (.str "__weakref__" 203) (.ref 25)), (.mk (PyData.keyHash P "__doc__") (.str "__doc__" 204) .none)] 3) #[])
def l10 : O := fun P => (.mk (.type "type") none (.cls (.mk "WoodError" [(.type "ValueError")] [(.ref 24), (.type "ValueError"), (.type "Exception"), (.type "BaseException"), (.type "object")] 23 "WoodError" .true [] [(.ref 37), (.ref 49), (.ref 61), (.ref 73), (.ref 85), (.ref 97), (.ref 109), (.ref 121), (.ref 133)] .false none .false)) #[(some (.ref 15)), none, (some (.str "WoodError" 189)), (some (.str "WoodError" 197)), (some (.builtin "ValueError.__new__")), (some (.bool .true))])
def l11 : O := fun P => (.mk (.type "getset_descriptor") none (.fields #[(.str "__weakref__" 202), (.ref 24), (.builtin "ExceptionGroup.__weakref__"), .none]) #[])
def l12 : O := fun P => (.mk (.type "super") none (.fields #[(.ref 24), (.ref 24), (.ref 24)]) #[])
def l13 : O := fun P => (.mk (.type "builtin_function_or_method") none (.fields #[(.builtin "object.__init_subclass__"), (.ref 24)]) #[])
def d1 : List O := h0 207 4 28 "TooMany"
def d2 : List O := h0 223 6 40 "NoBit"
def d3 : List O := h0 239 8 52 "NoPlace"
def d4 : List O := h0 255 10 64 "NoNode"
def d5 : List O := h0 271 12 76 "NoTree"
def d6 : List O := h0 287 14 88 "NoSign"
def d7 : List O := h0 303 16 100 "NoWord"
def d8 : List O := h0 319 18 112 "Twice"
def d9 : List O := h0 335 20 124 "NoOctets"
def d10 : List O := h1 14 357 25 1 136 351 "packed" "thinwood.blocks"
def d11 : List O := h2 363 15 28 1 141 368 351 ["bits", "bit"] "check_row" "thinwood.blocks"
def d12 : List O := h2 371 16 34 1 148 377 351 ["bits", "block", "bit"] "block_of" "thinwood.blocks"
def d13 : List O := h2 380 17 39 2 155 387 351 ["blocks", "many", "bits", "block"] "unpacked" "thinwood.blocks"
def d14 : List O := h2 390 18 46 2 162 395 351 ["block", "k"] "bit_in" "thinwood.blocks"
def d15 : List O := h1 19 398 48 2 169 351 "bits_of" "thinwood.blocks"
def d16 : List O := h2 404 20 50 2 174 409 351 ["block", "upto"] "ones_in" "thinwood.blocks"
def d17 : List O := h2 414 22 53 2 181 422 412 ["number", "many", "octets", "rest", "k"] "octets_of" "thinwood.octets"
def d18 : List O := h2 425 23 60 1 188 431 412 ["octets", "number", "octet"] "number_of" "thinwood.octets"
def d19 : List O := h2 436 25 66 1 195 441 434 ["bits", "blocks"] "kept_row" "thinwood.rows"
def d20 : List O := h2 444 26 69 1 202 450 434 ["blocks", "ahead", "block"] "ahead_of" "thinwood.rows"
def d21 : List O := h2 461 31 78 2 209 468 453 ["numbers", "size", "octets", "number"] "numbers_octets" "thinwood.written"
def d22 : List O := h2 471 32 83 2 216 476 453 ["blocks", "ahead"] "bits_octets" "thinwood.written"
def d23 : List O := h2 479 33 85 1 223 484 453 ["bits", "kept"] "row_octets" "thinwood.written"
def d24 : List O := h2 487 34 88 1 230 491 453 ["octets"] "read_row" "thinwood.written"
def d25 : List O := h2 494 35 90 3 237 502 453 ["octets", "tell", "write", "told", "again"] "read_as" "thinwood.written"
def d26 : List O := h2 505 36 100 1 244 510 453 ["octets", "octet"] "check_octets" "thinwood.written"
def d27 : List O := h2 513 37 104 3 251 519 453 ["octets", "at", "size"] "number_at" "thinwood.written"
def d28 : List O := h1 38 522 108 4 258 453 "numbers_at" "thinwood.written"
def d29 : List O := h2 528 39 110 1 263 532 453 ["many"] "block_total" "thinwood.written"
def d30 : List O := h2 535 40 112 3 270 541 453 ["octets", "at", "many"] "bits_at" "thinwood.written"
def d31 : List O := h2 544 41 114 1 277 548 453 ["octets"] "told_bits" "thinwood.written"
def d32 : List O := h2 553 43 117 2 284 558 551 ["_law_script", "_law_k"] "_law_cell_at" "law_thinwood_k85_rows_read"
def d33 : List O := h2 561 44 121 1 291 565 551 ["_law_found"] "_law_whole" "law_thinwood_k85_rows_read"
def d34 : List O := h2 568 45 123 1 298 577 551 ["_law_script", "_law_bits_here", "_law_cell", "_law_number", "_law_piece", "_law_k"] "_law_bits" "law_thinwood_k85_rows_read"
def d35 : List O := h2 580 46 133 1 305 584 551 ["_law_number"] "_law_two" "law_thinwood_k85_rows_read"
def d36 : List O := h2 587 47 135 1 312 596 551 ["_law_bits_here", "_law_octets_here", "_law_start", "_law_octet", "_law_bit", "_law_ones"] "_law_written" "law_thinwood_k85_rows_read"
def d37 : List O := h1 48 599 150 1 319 551 "_law_due" "law_thinwood_k85_rows_read"
def d38 : List O := h1 49 605 163 1 324 551 "_law_told" "law_thinwood_k85_rows_read"
def d39 : List O := h2 611 50 176 2 329 620 551 ["_law_octets_here", "_law_cell", "_law_number", "_law_at", "_law_drawn", "_law_bit"] "_law_changed" "law_thinwood_k85_rows_read"
def d40 : List O := h1 51 623 194 1 336 551 "_law_octets" "law_thinwood_k85_rows_read"
def d41 : List O := h2 629 52 213 1 341 637 551 ["_law_script", "_law_octets_here", "_law_handed", "_law_due_here", "_law_found"] "law" "law_thinwood_k85_rows_read"
def f0 : List O := ap [PySem.W.boot_o_0, PySem.W.boot_o_1, PySem.W.boot_o_2, s0, PySem.W.boot_o_4, PySem.W.boot_o_5, PySem.W.boot_o_6, PySem.W.boot_o_7, PySem.W.boot_o_8, PySem.W.boot_o_9, PySem.W.boot_o_10, l0, s1, l1, l2, l3, l4, l5, l0, l6, l7, l8, l0, l9, l10, l11, l12, l13] (ap d1 (ap d2 (ap d3 (ap d4 (ap d5 (ap d6 (ap d7 (ap d8 (d9)))))))))
def f1 : List O := ap d10 (ap d11 (ap d12 (ap d13 (ap d14 (ap d15 (ap d16 (ap d17 (ap d18 (d19)))))))))
def f2 : List O := ap d20 (ap d21 (ap d22 (ap d23 (ap d24 (ap d25 (ap d26 (ap d27 (ap d28 (d29)))))))))
def f3 : List O := ap d30 (ap d31 (ap d32 (ap d33 (ap d34 (ap d35 (ap d36 (ap d37 (ap d38 (d39)))))))))
def f4 : List O := ap d40 (d41)
def ff : List O := ap f0 (ap f1 (ap f2 (ap f3 (f4))))
def s2 : O := gd (Z "__name__" 165 (.str "thinwood.errors" 187) :: tk gg 9) 10
def l14 : O := fun P => (.mk .none none (.fields #[(.int 2 0), (.int 0 0), (.ref 20)]) #[])
def l15 : O := fun P => (.mk (.type "type") none (.cls (.mk "WoodError" [(.type "ValueError")] [(.ref 24), (.type "ValueError"), (.type "Exception"), (.type "BaseException"), (.type "object")] 23 "WoodError" .true [] [] .false none .false)) #[(some (.ref 15)), none, (some (.str "WoodError" 189)), (some (.str "WoodError" 197)), (some (.builtin "ValueError.__new__")), (some (.bool .true))])
def S_tree_63 : Params → PySem.W.BT := fun P => bt 6 (mp (fun x => x P) (ov (tk ff 28) [(3, s2), (8, l14), (11, l15)]))
def s3 : O := gd (Z "__name__" 165 (.str "thinwood.errors" 187) :: tk gg 10) 11
def s4 : O := tb (tk tt 2)
def l16 : O := fun P => (.mk (.type "type") none (.cls (.mk "WoodError" [(.type "ValueError")] [(.ref 24), (.type "ValueError"), (.type "Exception"), (.type "BaseException"), (.type "object")] 23 "WoodError" .true [] [(.ref 37)] .false none .false)) #[(some (.ref 15)), none, (some (.str "WoodError" 189)), (some (.str "WoodError" 197)), (some (.builtin "ValueError.__new__")), (some (.bool .true))])
def S_tree_78 : Params → PySem.W.BT := fun P => bt 7 (mp (fun x => x P) (ov (tk ff 40) [(3, s3), (8, s4), (11, l16)]))
def s5 : O := gd (Z "__name__" 165 (.str "thinwood.errors" 187) :: tk gg 11) 12
def s6 : O := tb (tk tt 3)
def l17 : O := fun P => (.mk (.type "type") none (.cls (.mk "WoodError" [(.type "ValueError")] [(.ref 24), (.type "ValueError"), (.type "Exception"), (.type "BaseException"), (.type "object")] 23 "WoodError" .true [] [(.ref 37), (.ref 49)] .false none .false)) #[(some (.ref 15)), none, (some (.str "WoodError" 189)), (some (.str "WoodError" 197)), (some (.builtin "ValueError.__new__")), (some (.bool .true))])
def S_tree_93 : Params → PySem.W.BT := fun P => bt 7 (mp (fun x => x P) (ov (tk ff 52) [(3, s5), (8, s6), (11, l17)]))
def s7 : O := gd (Z "__name__" 165 (.str "thinwood.errors" 187) :: tk gg 12) 13
def s8 : O := tb (tk tt 4)
def l18 : O := fun P => (.mk (.type "type") none (.cls (.mk "WoodError" [(.type "ValueError")] [(.ref 24), (.type "ValueError"), (.type "Exception"), (.type "BaseException"), (.type "object")] 23 "WoodError" .true [] [(.ref 37), (.ref 49), (.ref 61)] .false none .false)) #[(some (.ref 15)), none, (some (.str "WoodError" 189)), (some (.str "WoodError" 197)), (some (.builtin "ValueError.__new__")), (some (.bool .true))])
def S_tree_108 : Params → PySem.W.BT := fun P => bt 8 (mp (fun x => x P) (ov (tk ff 64) [(3, s7), (8, s8), (11, l18)]))
def s9 : O := gd (Z "__name__" 165 (.str "thinwood.errors" 187) :: tk gg 13) 14
def s10 : O := tb (tk tt 5)
def l19 : O := fun P => (.mk (.type "type") none (.cls (.mk "WoodError" [(.type "ValueError")] [(.ref 24), (.type "ValueError"), (.type "Exception"), (.type "BaseException"), (.type "object")] 23 "WoodError" .true [] [(.ref 37), (.ref 49), (.ref 61), (.ref 73)] .false none .false)) #[(some (.ref 15)), none, (some (.str "WoodError" 189)), (some (.str "WoodError" 197)), (some (.builtin "ValueError.__new__")), (some (.bool .true))])
def S_tree_123 : Params → PySem.W.BT := fun P => bt 8 (mp (fun x => x P) (ov (tk ff 76) [(3, s9), (8, s10), (11, l19)]))
def s11 : O := gd (Z "__name__" 165 (.str "thinwood.errors" 187) :: tk gg 14) 15
def s12 : O := tb (tk tt 6)
def l20 : O := fun P => (.mk (.type "type") none (.cls (.mk "WoodError" [(.type "ValueError")] [(.ref 24), (.type "ValueError"), (.type "Exception"), (.type "BaseException"), (.type "object")] 23 "WoodError" .true [] [(.ref 37), (.ref 49), (.ref 61), (.ref 73), (.ref 85)] .false none .false)) #[(some (.ref 15)), none, (some (.str "WoodError" 189)), (some (.str "WoodError" 197)), (some (.builtin "ValueError.__new__")), (some (.bool .true))])
def S_tree_138 : Params → PySem.W.BT := fun P => bt 8 (mp (fun x => x P) (ov (tk ff 88) [(3, s11), (8, s12), (11, l20)]))
def s13 : O := gd (Z "__name__" 165 (.str "thinwood.errors" 187) :: tk gg 15) 16
def s14 : O := tb (tk tt 7)
def l21 : O := fun P => (.mk (.type "type") none (.cls (.mk "WoodError" [(.type "ValueError")] [(.ref 24), (.type "ValueError"), (.type "Exception"), (.type "BaseException"), (.type "object")] 23 "WoodError" .true [] [(.ref 37), (.ref 49), (.ref 61), (.ref 73), (.ref 85), (.ref 97)] .false none .false)) #[(some (.ref 15)), none, (some (.str "WoodError" 189)), (some (.str "WoodError" 197)), (some (.builtin "ValueError.__new__")), (some (.bool .true))])
def S_tree_153 : Params → PySem.W.BT := fun P => bt 8 (mp (fun x => x P) (ov (tk ff 100) [(3, s13), (8, s14), (11, l21)]))
def s15 : O := gd (Z "__name__" 165 (.str "thinwood.errors" 187) :: tk gg 16) 17
def s16 : O := tb (tk tt 8)
def l22 : O := fun P => (.mk (.type "type") none (.cls (.mk "WoodError" [(.type "ValueError")] [(.ref 24), (.type "ValueError"), (.type "Exception"), (.type "BaseException"), (.type "object")] 23 "WoodError" .true [] [(.ref 37), (.ref 49), (.ref 61), (.ref 73), (.ref 85), (.ref 97), (.ref 109)] .false none .false)) #[(some (.ref 15)), none, (some (.str "WoodError" 189)), (some (.str "WoodError" 197)), (some (.builtin "ValueError.__new__")), (some (.bool .true))])
def S_tree_168 : Params → PySem.W.BT := fun P => bt 8 (mp (fun x => x P) (ov (tk ff 112) [(3, s15), (8, s16), (11, l22)]))
def s17 : O := gd (Z "__name__" 165 (.str "thinwood.errors" 187) :: tk gg 17) 18
def s18 : O := tb (tk tt 9)
def l23 : O := fun P => (.mk (.type "type") none (.cls (.mk "WoodError" [(.type "ValueError")] [(.ref 24), (.type "ValueError"), (.type "Exception"), (.type "BaseException"), (.type "object")] 23 "WoodError" .true [] [(.ref 37), (.ref 49), (.ref 61), (.ref 73), (.ref 85), (.ref 97), (.ref 109), (.ref 121)] .false none .false)) #[(some (.ref 15)), none, (some (.str "WoodError" 189)), (some (.str "WoodError" 197)), (some (.builtin "ValueError.__new__")), (some (.bool .true))])
def S_tree_183 : Params → PySem.W.BT := fun P => bt 8 (mp (fun x => x P) (ov (tk ff 124) [(3, s17), (8, s18), (11, l23)]))
def s19 : O := gd (Z "__name__" 165 (.str "thinwood.blocks" 351) :: tk gg 25) 26
def s20 : O := tb (tk tt 15)
def S_tree_231 : Params → PySem.W.BT := fun P => bt 9 (mp (fun x => x P) (ov (tk ff 169) [(3, s19), (8, s20)]))
def s21 : O := gd (Z "__name__" 165 (.str "thinwood.written" 453) :: tk gg 39) 40
def s22 : O := tb (tk tt 26)
def S_tree_308 : Params → PySem.W.BT := fun P => bt 9 (mp (fun x => x P) (ov (tk ff 244) [(3, s21), (8, s22)]))
def s23 : O := gd (Z "__name__" 165 (.str "law_thinwood_k85_rows_read" 551) :: tk gg 52) 53
def s24 : O := tb (tk tt 39)
def S_tree_395 : Params → PySem.W.BT := fun P => bt 10 (mp (fun x => x P) (ov (tk ff 329) [(3, s23), (8, s24)]))
def S_tree_416 : Params → PySem.W.BT := fun P => bt 10 (mp (fun x => x P) (ff))
def S_heap_417 : Params → Heap := fun P => Heap.mk (Array.mk (mp (fun x => x P) (ff))) (.mk [] [] [] 0 [] [] .false #[] [] 0 .false .false .false 0 [2000, 10, 10] .false 0 .true [] [] 0 .false)
def S_sts_49 : List Stmt := tk (List.drop 0 PySem.Challenge.pw_thinwood_k85_rows_read.main.body) 2
def S_sts_64 : List Stmt := tk (List.drop 2 PySem.Challenge.pw_thinwood_k85_rows_read.main.body) 1
def S_sts_79 : List Stmt := tk (List.drop 3 PySem.Challenge.pw_thinwood_k85_rows_read.main.body) 1
def S_sts_94 : List Stmt := tk (List.drop 4 PySem.Challenge.pw_thinwood_k85_rows_read.main.body) 1
def S_sts_109 : List Stmt := tk (List.drop 5 PySem.Challenge.pw_thinwood_k85_rows_read.main.body) 1
def S_sts_124 : List Stmt := tk (List.drop 6 PySem.Challenge.pw_thinwood_k85_rows_read.main.body) 1
def S_sts_139 : List Stmt := tk (List.drop 7 PySem.Challenge.pw_thinwood_k85_rows_read.main.body) 1
def S_sts_154 : List Stmt := tk (List.drop 8 PySem.Challenge.pw_thinwood_k85_rows_read.main.body) 1
def S_sts_169 : List Stmt := tk (List.drop 9 PySem.Challenge.pw_thinwood_k85_rows_read.main.body) 1
def S_sts_184 : List Stmt := tk (List.drop 10 PySem.Challenge.pw_thinwood_k85_rows_read.main.body) 9
def S_sts_232 : List Stmt := tk (List.drop 19 PySem.Challenge.pw_thinwood_k85_rows_read.main.body) 17
def S_sts_309 : List Stmt := tk (List.drop 36 PySem.Challenge.pw_thinwood_k85_rows_read.main.body) 14
def S_sts_396 : List Stmt := tk (List.drop 50 PySem.Challenge.pw_thinwood_k85_rows_read.main.body) 3
def S_view : Program := { PySem.Challenge.pw_thinwood_k85_rows_read with main := { PySem.Challenge.pw_thinwood_k85_rows_read.main with body := mp Tw.top [1, 2, 3, 4, 5, 6, 7, 8, 9, 10, 12, 13, 14, 15, 16, 17, 18, 19, 20, 22, 23, 25, 26, 28, 29, 30, 31, 32, 33, 34, 35, 36, 37, 38, 39, 40, 41, 43, 44, 45, 46, 47, 48, 49, 50, 51, 52] } }
end
end Tp
theorem PySem.W.Fast.tw14598715356260435866 : True := trivial
noncomputable abbrev PySem.W.Fast.tw5223282999376601566 : PySem.Program := PySem.Challenge.pw_thinwood_k85_rows_read
theorem PySem.W.Fast.te5223282999376601566 : PySem.Challenge.pw_thinwood_k85_rows_read = PySem.W.Fast.tw5223282999376601566 := rfl
lay_quick Tp.g0 Tp.g1 Tp.g2 Tp.g3 Tp.g4 Tp.g5 Tp.gg Tp.s0 Tp.l0 Tp.s1 Tp.l1 Tp.l2 Tp.l3 Tp.l4 Tp.l5 Tp.l6 Tp.l7 Tp.l8 Tp.l9 Tp.l10 Tp.l11 Tp.l12 Tp.l13 Tp.d1 Tp.d2 Tp.d3 Tp.d4 Tp.d5 Tp.d6 Tp.d7 Tp.d8 Tp.d9 Tp.d10 Tp.d11 Tp.d12 Tp.d13 Tp.d14 Tp.d15 Tp.d16 Tp.d17
lay_quick Tp.d18 Tp.d19 Tp.d20 Tp.d21 Tp.d22 Tp.d23 Tp.d24 Tp.d25 Tp.d26 Tp.d27 Tp.d28 Tp.d29 Tp.d30 Tp.d31 Tp.d32 Tp.d33 Tp.d34 Tp.d35 Tp.d36 Tp.d37 Tp.d38 Tp.d39 Tp.d40 Tp.d41 Tp.f0 Tp.f1 Tp.f2 Tp.f3 Tp.f4 Tp.ff Tp.s2 Tp.l14 Tp.l15 Tp.S_tree_63 Tp.s3 Tp.s4 Tp.l16 Tp.S_tree_78 Tp.s5 Tp.s6
lay_quick Tp.l17 Tp.S_tree_93 Tp.s7 Tp.s8 Tp.l18 Tp.S_tree_108 Tp.s9 Tp.s10 Tp.l19 Tp.S_tree_123 Tp.s11 Tp.s12 Tp.l20 Tp.S_tree_138 Tp.s13 Tp.s14 Tp.l21 Tp.S_tree_153 Tp.s15 Tp.s16 Tp.l22 Tp.S_tree_168 Tp.s17 Tp.s18 Tp.l23 Tp.S_tree_183 Tp.s19 Tp.s20 Tp.S_tree_231 Tp.s21 Tp.s22 Tp.S_tree_308 Tp.s23 Tp.s24 Tp.S_tree_395 Tp.S_tree_416 Tp.S_heap_417 Tp.S_sts_49 Tp.S_sts_64 Tp.S_sts_79
lay_quick Tp.S_sts_94 Tp.S_sts_109 Tp.S_sts_124 Tp.S_sts_139 Tp.S_sts_154 Tp.S_sts_169 Tp.S_sts_184 Tp.S_sts_232 Tp.S_sts_309 Tp.S_sts_396 Tp.S_view
namespace Tp
open PySem PySem.W.Fast
noncomputable abbrev _root_.PySem.W.Fast.tw14540349180611157532 : Params → PySem.W.BT := tw11432227658251013801
theorem _root_.PySem.W.Fast.te14540349180611157532 : S_tree_63 = _root_.PySem.W.Fast.tw14540349180611157532 := te11432227658251013801
noncomputable abbrev _root_.PySem.W.Fast.tw4238589360132430450 : Params → PySem.W.BT := tw16269510630359031336
theorem _root_.PySem.W.Fast.te4238589360132430450 : S_tree_78 = _root_.PySem.W.Fast.tw4238589360132430450 := te16269510630359031336
noncomputable abbrev _root_.PySem.W.Fast.tw313210053601195960 : Params → PySem.W.BT := tw5549918322004914887
theorem _root_.PySem.W.Fast.te313210053601195960 : S_tree_93 = _root_.PySem.W.Fast.tw313210053601195960 := te5549918322004914887
noncomputable abbrev _root_.PySem.W.Fast.tw9410572317167145667 : Params → PySem.W.BT := tw10118726668083288838
theorem _root_.PySem.W.Fast.te9410572317167145667 : S_tree_108 = _root_.PySem.W.Fast.tw9410572317167145667 := te10118726668083288838
noncomputable abbrev _root_.PySem.W.Fast.tw12620146810895144655 : Params → PySem.W.BT := tw244363406318419850
theorem _root_.PySem.W.Fast.te12620146810895144655 : S_tree_123 = _root_.PySem.W.Fast.tw12620146810895144655 := te244363406318419850
noncomputable abbrev _root_.PySem.W.Fast.tw14638232086147896461 : Params → PySem.W.BT := tw12417361858070979987
theorem _root_.PySem.W.Fast.te14638232086147896461 : S_tree_138 = _root_.PySem.W.Fast.tw14638232086147896461 := te12417361858070979987
noncomputable abbrev _root_.PySem.W.Fast.tw6099894714958179901 : Params → PySem.W.BT := tw863085786592867233
theorem _root_.PySem.W.Fast.te6099894714958179901 : S_tree_153 = _root_.PySem.W.Fast.tw6099894714958179901 := te863085786592867233
noncomputable abbrev _root_.PySem.W.Fast.tw16377003599835492337 : Params → PySem.W.BT := tw12361961019411380784
theorem _root_.PySem.W.Fast.te16377003599835492337 : S_tree_168 = _root_.PySem.W.Fast.tw16377003599835492337 := te12361961019411380784
noncomputable abbrev _root_.PySem.W.Fast.tw4542725363876922048 : Params → PySem.W.BT := tw673588881184747952
theorem _root_.PySem.W.Fast.te4542725363876922048 : S_tree_183 = _root_.PySem.W.Fast.tw4542725363876922048 := te673588881184747952
noncomputable abbrev _root_.PySem.W.Fast.tw3381538223569967872 : Params → PySem.W.BT := tw10994700392678862590
theorem _root_.PySem.W.Fast.te3381538223569967872 : S_tree_231 = _root_.PySem.W.Fast.tw3381538223569967872 := te10994700392678862590
noncomputable abbrev _root_.PySem.W.Fast.tw4756843517893265981 : Params → PySem.W.BT := tw16165873449034575463
theorem _root_.PySem.W.Fast.te4756843517893265981 : S_tree_308 = _root_.PySem.W.Fast.tw4756843517893265981 := te16165873449034575463
noncomputable abbrev _root_.PySem.W.Fast.tw11807389273194625151 : Params → PySem.W.BT := tw4902126602486982105
theorem _root_.PySem.W.Fast.te11807389273194625151 : S_tree_395 = _root_.PySem.W.Fast.tw11807389273194625151 := te4902126602486982105
noncomputable abbrev _root_.PySem.W.Fast.tw17408335668371783869 : Params → PySem.W.BT := tw10967300236965459498
theorem _root_.PySem.W.Fast.te17408335668371783869 : S_tree_416 = _root_.PySem.W.Fast.tw17408335668371783869 := te10967300236965459498
noncomputable abbrev _root_.PySem.W.Fast.tw13137527182225263991 : Params → Heap := tw14427262736977498003
theorem _root_.PySem.W.Fast.te13137527182225263991 : S_heap_417 = _root_.PySem.W.Fast.tw13137527182225263991 := te14427262736977498003
noncomputable abbrev _root_.PySem.W.Fast.tw8723382731096002226 : List Stmt := tw666750322614274432
theorem _root_.PySem.W.Fast.te8723382731096002226 : S_sts_49 = _root_.PySem.W.Fast.tw8723382731096002226 := te666750322614274432
noncomputable abbrev _root_.PySem.W.Fast.tw2470684266705455755 : List Stmt := tw5768192320520425421
theorem _root_.PySem.W.Fast.te2470684266705455755 : S_sts_64 = _root_.PySem.W.Fast.tw2470684266705455755 := te5768192320520425421
noncomputable abbrev _root_.PySem.W.Fast.tw15810681318621731616 : List Stmt := tw16161987442105222805
theorem _root_.PySem.W.Fast.te15810681318621731616 : S_sts_79 = _root_.PySem.W.Fast.tw15810681318621731616 := te16161987442105222805
noncomputable abbrev _root_.PySem.W.Fast.tw5472915752861871770 : List Stmt := tw11682420065776883047
theorem _root_.PySem.W.Fast.te5472915752861871770 : S_sts_94 = _root_.PySem.W.Fast.tw5472915752861871770 := te11682420065776883047
noncomputable abbrev _root_.PySem.W.Fast.tw11163660572552829806 : List Stmt := tw5728941507444464575
theorem _root_.PySem.W.Fast.te11163660572552829806 : S_sts_109 = _root_.PySem.W.Fast.tw11163660572552829806 := te5728941507444464575
noncomputable abbrev _root_.PySem.W.Fast.tw3751235134911462257 : List Stmt := tw3506674074365841151
theorem _root_.PySem.W.Fast.te3751235134911462257 : S_sts_124 = _root_.PySem.W.Fast.tw3751235134911462257 := te3506674074365841151
noncomputable abbrev _root_.PySem.W.Fast.tw8525592552601705208 : List Stmt := tw11501099722331979331
theorem _root_.PySem.W.Fast.te8525592552601705208 : S_sts_139 = _root_.PySem.W.Fast.tw8525592552601705208 := te11501099722331979331
noncomputable abbrev _root_.PySem.W.Fast.tw1480442118762225496 : List Stmt := tw13451323129798551695
theorem _root_.PySem.W.Fast.te1480442118762225496 : S_sts_154 = _root_.PySem.W.Fast.tw1480442118762225496 := te13451323129798551695
noncomputable abbrev _root_.PySem.W.Fast.tw8469027964068536536 : List Stmt := tw8446481660639318910
theorem _root_.PySem.W.Fast.te8469027964068536536 : S_sts_169 = _root_.PySem.W.Fast.tw8469027964068536536 := te8446481660639318910
noncomputable abbrev _root_.PySem.W.Fast.tw16930999390886977719 : List Stmt := tw9025746439807584814
theorem _root_.PySem.W.Fast.te16930999390886977719 : S_sts_184 = _root_.PySem.W.Fast.tw16930999390886977719 := te9025746439807584814
noncomputable abbrev _root_.PySem.W.Fast.tw15264703492956308146 : List Stmt := tw10661821662673760951
theorem _root_.PySem.W.Fast.te15264703492956308146 : S_sts_232 = _root_.PySem.W.Fast.tw15264703492956308146 := te10661821662673760951
noncomputable abbrev _root_.PySem.W.Fast.tw15614233339503382525 : List Stmt := tw7806506260259060992
theorem _root_.PySem.W.Fast.te15614233339503382525 : S_sts_309 = _root_.PySem.W.Fast.tw15614233339503382525 := te7806506260259060992
noncomputable abbrev _root_.PySem.W.Fast.tw776620050944536971 : List Stmt := tw16369953471915098403
theorem _root_.PySem.W.Fast.te776620050944536971 : S_sts_396 = _root_.PySem.W.Fast.tw776620050944536971 := te16369953471915098403
noncomputable abbrev _root_.PySem.W.Fast.tw6839793569512516022 : Program := tw11325136443342628617
theorem _root_.PySem.W.Fast.te6839793569512516022 : S_view = _root_.PySem.W.Fast.tw6839793569512516022 := te11325136443342628617
theorem _root_.PySem.W.Fast.te17765815097550828955 : True := trivial
end Tp

open PySem PySem.W PyProof.Rows
set_option maxRecDepth 100000 in
set_option maxHeartbeats 0 in
theorem PySem.Challenge.cw_thinwood_k85_rows_read_holds : PySem.Challenge.rw_thinwood_k85_rows_read.Holds := by
  w_on; o_law; k_head; (case hw => w_witness2)
  k_fill
  refine L2.walk_of (l := PySem.Challenge.rw_thinwood_k85_rows_read) (n := 63) (k := 10) (x := "_law_script") (CX := fun _ => L2.CX0) (sp := fun w => Tw.sp_law _) rfl (by decide) rfl ⟨rfl, by decide, by decide⟩ (fun w h Y => PySem.W.kIn_of Y) ?F (fun _ _ a ns hl _ hS => ⟨a, ns, rfl, hS, hl, fun _ => rfl⟩) (fun _ _ _ _ _ z => z)
  case F =>
    intro w mg fa h KX G hmg
    refine' Tw.all_mk KX G hmg ?d0 ?d1 ?d2 ?d3 ?d4 ?d5 ?d6 ?d7 ?d8 ?d9 ?d10 ?d11 ?d12 ?d13 ?d14 ?d15 ?d16 ?d17 ?d18 ?d19 ?d20 ?d21 ?d22 ?d23 ?d24 ?d25 ?d26 ?d27 ?d28 ?d29 ?d30 ?d31 ?z_ValueError ?z_bool ?z_int ?z_isinstance ?z_len ?z_list ?z_min ?z_range ?z_reversed ?z_sum ?z_tuple ?g_BLOCK_BITS ?g_BLOCK_OCTETS ?g_COUNT_OCTETS ?g_MOST_BITS ?g_ROW ?q_NoBit ?q_NoNode ?q_NoOctets ?q_NoPlace ?q_NoSign ?q_NoTree ?q_NoWord ?q_TooMany ?q_Twice ?q_WoodError ?ex_NoBit ?ed_NoBit ?ega_NoBit ?eng_NoBit ?ecl_NoBit ?egt_NoBit ?etk_NoBit ?emo_NoBit ?emb_NoBit ?i_NoBit_NoBit ?i_NoBit_NoNode ?i_NoBit_NoOctets ?i_NoBit_NoPlace ?i_NoBit_NoSign ?i_NoBit_NoTree ?i_NoBit_NoWord ?i_NoBit_TooMany ?i_NoBit_Twice ?i_NoBit_WoodError ?i_NoBit_ValueError ?ex_NoOctets ?ed_NoOctets ?ega_NoOctets ?eng_NoOctets ?ecl_NoOctets ?egt_NoOctets ?etk_NoOctets ?emo_NoOctets ?emb_NoOctets ?i_NoOctets_NoBit ?i_NoOctets_NoNode ?i_NoOctets_NoOctets ?i_NoOctets_NoPlace ?i_NoOctets_NoSign ?i_NoOctets_NoTree ?i_NoOctets_NoWord ?i_NoOctets_TooMany ?i_NoOctets_Twice ?i_NoOctets_WoodError ?i_NoOctets_ValueError ?ex_TooMany ?ed_TooMany ?ega_TooMany ?eng_TooMany ?ecl_TooMany ?egt_TooMany ?etk_TooMany ?emo_TooMany ?emb_TooMany ?i_TooMany_NoBit ?i_TooMany_NoNode ?i_TooMany_NoOctets ?i_TooMany_NoPlace ?i_TooMany_NoSign ?i_TooMany_NoTree ?i_TooMany_NoWord ?i_TooMany_TooMany ?i_TooMany_Twice ?i_TooMany_WoodError ?i_TooMany_ValueError ?ex_WoodError ?ed_WoodError ?ega_WoodError ?eng_WoodError ?ecl_WoodError ?egt_WoodError ?etk_WoodError ?emo_WoodError ?emb_WoodError ?i_WoodError_NoBit ?i_WoodError_NoNode ?i_WoodError_NoOctets ?i_WoodError_NoPlace ?i_WoodError_NoSign ?i_WoodError_NoTree ?i_WoodError_NoWord ?i_WoodError_TooMany ?i_WoodError_Twice ?i_WoodError_WoodError ?i_WoodError_ValueError
    (case d0 | d1 | d2 | d3 | d4 | d5 | d6 | d7 | d8 | d9 | d10 | d11 | d12 | d13 | d14 | d15 | d16 | d17 | d18 | d19 | d20 | d21 | d22 | d23 | d24 | d25 | d26 | d27 | d28 | d29 | d30 | d31 => exact ⟨by k_is, L2.fun_mk (by k_is) (by k_is) (by k_is)⟩); (case z_ValueError => k_is); (case z_bool => k_is); (case z_int => k_is); (case z_isinstance => k_is); (case z_len => k_is); (case z_list => k_is); (case z_min => k_is); (case z_range => k_is); (case z_reversed => k_is); (case z_sum => k_is); (case z_tuple => k_is); (case g_BLOCK_BITS => k_is); (case g_BLOCK_OCTETS => k_is); (case g_COUNT_OCTETS => k_is); (case g_MOST_BITS => k_is); (case g_ROW => k_is); (case q_NoBit => k_is); (case q_NoNode => k_is); (case q_NoOctets => k_is); (case q_NoPlace => k_is); (case q_NoSign => k_is); (case q_NoTree => k_is); (case q_NoWord => k_is); (case q_TooMany => k_is); (case q_Twice => k_is); (case q_WoodError => k_is); (case ex_NoBit => k_exc); (case ed_NoBit => k_is); (case ega_NoBit => k_is); (case eng_NoBit => k_is); (case ecl_NoBit => k_is); (case egt_NoBit => k_is); (case etk_NoBit => k_is); (case emo_NoBit => k_is); (case emb_NoBit => k_is); (case i_NoBit_NoBit => kit_is); (case i_NoBit_NoNode => kit_is); (case i_NoBit_NoOctets => kit_is); (case i_NoBit_NoPlace => kit_is); (case i_NoBit_NoSign => kit_is); (case i_NoBit_NoTree => kit_is); (case i_NoBit_NoWord => kit_is); (case i_NoBit_TooMany => kit_is); (case i_NoBit_Twice => kit_is); (case i_NoBit_WoodError => kit_is); (case i_NoBit_ValueError => kit_is); (case ex_NoOctets => k_exc); (case ed_NoOctets => k_is); (case ega_NoOctets => k_is); (case eng_NoOctets => k_is); (case ecl_NoOctets => k_is); (case egt_NoOctets => k_is); (case etk_NoOctets => k_is); (case emo_NoOctets => k_is); (case emb_NoOctets => k_is); (case i_NoOctets_NoBit => kit_is); (case i_NoOctets_NoNode => kit_is); (case i_NoOctets_NoOctets => kit_is); (case i_NoOctets_NoPlace => kit_is); (case i_NoOctets_NoSign => kit_is); (case i_NoOctets_NoTree => kit_is); (case i_NoOctets_NoWord => kit_is); (case i_NoOctets_TooMany => kit_is); (case i_NoOctets_Twice => kit_is); (case i_NoOctets_WoodError => kit_is); (case i_NoOctets_ValueError => kit_is); (case ex_TooMany => k_exc); (case ed_TooMany => k_is); (case ega_TooMany => k_is); (case eng_TooMany => k_is); (case ecl_TooMany => k_is); (case egt_TooMany => k_is); (case etk_TooMany => k_is); (case emo_TooMany => k_is); (case emb_TooMany => k_is); (case i_TooMany_NoBit => kit_is); (case i_TooMany_NoNode => kit_is); (case i_TooMany_NoOctets => kit_is); (case i_TooMany_NoPlace => kit_is); (case i_TooMany_NoSign => kit_is); (case i_TooMany_NoTree => kit_is); (case i_TooMany_NoWord => kit_is); (case i_TooMany_TooMany => kit_is); (case i_TooMany_Twice => kit_is); (case i_TooMany_WoodError => kit_is); (case i_TooMany_ValueError => kit_is); (case ex_WoodError => k_exc); (case ed_WoodError => k_is); (case ega_WoodError => k_is); (case eng_WoodError => k_is); (case ecl_WoodError => k_is); (case egt_WoodError => k_is); (case etk_WoodError => k_is); (case emo_WoodError => k_is); (case emb_WoodError => k_is); (case i_WoodError_NoBit => kit_is); (case i_WoodError_NoNode => kit_is); (case i_WoodError_NoOctets => kit_is); (case i_WoodError_NoPlace => kit_is); (case i_WoodError_NoSign => kit_is); (case i_WoodError_NoTree => kit_is); (case i_WoodError_NoWord => kit_is); (case i_WoodError_TooMany => kit_is); (case i_WoodError_Twice => kit_is); (case i_WoodError_WoodError => kit_is); (case i_WoodError_ValueError => kit_is)


