import PyProof.Rows.All
import Wide.All
import OpenK.AllK
import Wide.FinOn
import Lean
import PyProof.EqAt
import PyProof.EqKinds
import PyProof.TupleCall
import PySem.Challenge.RW_thinwood_k90_whole_tree_opened
set_option Elab.async false
set_option linter.all false
set_option maxRecDepth 100000
namespace L2
open PySem PySem.Spec PyProof.Rows
abbrev Key:=Sum Int Str
def Hd:Key→Value→Bool
 | .inl k,v=>Value.isInt k v
 | .inr x,v=>Value.isStrOf x v
def J4 (w:World):Key→Int
 | .inl k=>hashInt k
 | .inr x=>hashStr w x
theorem cA : ∀ {k:Key} {v:Value},Hd k v=true→(∃ i t,k=Sum.inl i∧v=Value.int i t)∨(∃ x t,k=Sum.inr x∧v=Value.str x t)
 | .inl i,v,h=>by
  obtain ⟨t,e⟩:=Value.isInt_shape (k:=i) (v:=v) h
  exact .inl ⟨i,t,rfl,e⟩
 | .inr x,v,h=>by
  obtain ⟨t,e⟩:=Value.isStrOf_shape (x:=x) (v:=v) h
  exact .inr ⟨x,t,rfl,e⟩
theorem Ij (a b:Int):decide ((Sum.inl a:Key)=Sum.inl b)=(a == b):=by
 by_cases e:a=b
 ·subst e; simp
 ·have h : ¬ (Sum.inl a:Key)=Sum.inl b:=fun q=>e (Sum.inl.inj q)
  rw [decide_eq_false h]
  exact (beq_eq_false_iff_ne.mpr e).symm
theorem Hv (a b:Str):decide ((Sum.inr a:Key)=Sum.inr b)=decide (a=b):=by
 by_cases e:a=b
 ·subst e; simp
 ·have h : ¬ (Sum.inr a:Key)=Sum.inr b:=fun q=>e (Sum.inr.inj q)
  rw [decide_eq_false h,decide_eq_false e]
theorem Hu (a:Int) (b:Str):decide ((Sum.inl a:Key)=Sum.inr b)=false:=decide_eq_false (fun q=>nomatch q)
theorem Je (a:Str) (b:Int):decide ((Sum.inr a:Key)=Sum.inl b)=false:=decide_eq_false (fun q=>nomatch q)
def Bo (prog:Program) (w:World):PySem.KeyKind prog w Key where
 is:=Hd
 hash:=J4 w
 inj:=fun v a b ha hb=>by
  rcases cA ha with ⟨i,t,rfl,rfl⟩ | ⟨x,t,rfl,rfl⟩
  ·rcases cA hb with ⟨j,u,rfl,e⟩ | ⟨y,u,rfl,e⟩
   ·injection e with e1 _; rw [e1]
   ·exact nomatch e
  ·rcases cA hb with ⟨j,u,rfl,e⟩ | ⟨y,u,rfl,e⟩
   ·exact nomatch e
   ·injection e with e1 _; rw [e1]
 byValue:=fun k v h=>by
  rcases cA h with ⟨i,t,rfl,rfl⟩ | ⟨x,t,rfl,rfl⟩ <;> rfl
 pyHash:=fun hv h=>by
  rcases cA hv with ⟨i,t,rfl,rfl⟩ | ⟨x,t,rfl,rfl⟩
  ·exact wpAny_pyHash_int h
  ·exact wpAny_pyHash_str h
 eqBool:=fun hu hv h=>by
  rcases cA hu with ⟨i,t,rfl,rfl⟩ | ⟨x,t,rfl,rfl⟩
  ·rcases cA hv with ⟨j,u,rfl,rfl⟩ | ⟨y,u,rfl,rfl⟩
   ·rw [Ij] at h; exact wpAny_eqBool_int h
   ·rw [Hu] at h; exact SeqAt.EqAt.int_str i t y u _ _ _ _ h
  ·rcases cA hv with ⟨j,u,rfl,rfl⟩ | ⟨y,u,rfl,rfl⟩
   ·rw [Je] at h; exact SeqAt.EqAt.str_int x t j u _ _ _ _ h
   ·rw [Hv] at h; exact wpAny_eqBool_str h
 «strs» := fun k x t v h=>by
  rcases cA h with ⟨i,u,rfl,e⟩ | ⟨y,u,rfl,e⟩
  ·exact nomatch e
  ·injection e with e1 _
   subst e1
   cases v <;> rfl
end L2
namespace L2
open PySem PySem.Spec PyProof.Rows
inductive V where
 | non | bl (b:Bool) | int (i:Int) | str (x:Str) | byt (b:Array UInt8) | flt (b:UInt64) | ref (a:Addr) | ty (n:String)
 deriving DecidableEq
def RelV:V→Value→Prop
 | .non,u=>u=Value.none
 | .bl b,u=>u=Value.bool b
 | .int i,u => ∃ t,u=Value.int i t
 | .str x,u => ∃ t,u=Value.str x t
 | .byt b,u => ∃ t,u=Value.bytes b t
 | .flt b,u => ∃ t,u=Value.float b t
 | .ref a,u=>u=Value.ref a
 | .ty n,u=>u=Value.type n
abbrev Vals:List V→List Value→Prop:=Paired RelV
theorem Vals.length {xs:List V} {us:List Value} (r:Vals xs us):xs.length=us.length:=Paired.length r
theorem Vals.get : ∀ {xs:List V} {us:List Value} {i:Nat} {x:V},Vals xs us→xs[i]?=some x → ∃ u,us[i]?=some u∧RelV x u
 | _,_,_,_,.nil,e=>by simp at e
 | _,_,0,_,.cons r _,e=>by simp at e; subst e; exact ⟨_,rfl,r⟩
 | _,_,i + 1,x,.cons _ t,e=>by
  obtain ⟨u,h1,h2⟩:=Vals.get (i:=i) (x:=x) t (by simpa using e)
  exact ⟨u,by simpa using h1,h2⟩
theorem Vals.set {x:V} {u:Value} (r:RelV x u) : ∀ {xs:List V} {us:List Value} (i:Nat),Vals xs us→Vals (xs.set i x) (us.set i u)
 | _,_,_,.nil=>.nil
 | _,_,0,.cons _ t=>.cons r t
 | _,_,i + 1,.cons q t=>.cons q (Vals.set r i t)
theorem Vals.append : ∀ {xs ys:List V} {us ws:List Value},Vals xs us→Vals ys ws→Vals (xs ++ ys) (us ++ ws)
 | _,_,_,_,.nil,s=>s
 | _,_,_,_,.cons r t,s=>.cons r (Vals.append t s)
theorem Vals.take : ∀ {xs:List V} {us:List Value} (n:Nat),Vals xs us→Vals (xs.take n) (us.take n)
 | _,_,0,_=>.nil
 | _,_,_ + 1,.nil=>.nil
 | _,_,n + 1,.cons r t=>.cons r (Vals.take n t)
theorem Vals.drop : ∀ {xs:List V} {us:List Value} (n:Nat),Vals xs us→Vals (xs.drop n) (us.drop n)
 | _,_,0,r=>r
 | _,_,_ + 1,.nil=>.nil
 | _,_,n + 1,.cons _ t=>Vals.drop n t
def HX:Option V→Option Value→Prop
 | some v,some u=>RelV v u
 | none,none=>True
 | _,_=>False
def KV {κ:Type}:List (κ × V)→List (κ × Value)→Prop:=Paired fun (p:κ × V) (q:κ × Value)=>p.1=q.1∧RelV p.2 q.2
def kV:Key→V
 | .inl i=>.int i
 | .inr x=>.str x
inductive HO where
  | lst (xs:List V)
  | tup (xs:List V)
  | dK (kvs:List (Key × V)) | dT (kvs:List (List Key × V))
  | set (S:Int→Bool) (n:Nat)
  | ins (C dx:Addr) (fs:List (Str × V))
  | own (x:Addr)
  | xd (fs:List (Str × V))
  | met (f x:Addr)
  | rng (lo hi:Int)
  | frz (o:Obj) (u:HO)
  | tbl (ps:Array Value)
  | ext (φ:Heap→Prop)
abbrev Hp:=Addr→Option HO
def upd (H:Hp) (a:Addr) (o:HO):Hp:=fun b=>if b=a then some o else H b
theorem az {H:Hp} {a:Addr} {o:HO}:upd H a o a=some o:=by unfold upd; rw [if_pos rfl]
theorem aJ {H:Hp} {a b:Addr} {o:HO} (h:b ≠ a):upd H a o b=H b:=by unfold upd; rw [if_neg h]
theorem w6 {H:Hp} {a:Addr} {o u:HO}:upd (upd H a o) a u=upd H a u:=by
 funext b; unfold upd; split <;> rfl
theorem aN {H:Hp} {a b:Addr} {o:HO} (h:H a=some o) (h':H b=none):a ≠ b:=by
 intro e; subst e; rw [h] at h'; cases h'
section
variable (P:Program) (w:World)
def cD (H:Hp) (h:Heap) (a:Addr):HO→Prop
 | .lst xs=>xs.length≤sizeLine ∧ ∃ (its:List Value) (n:Nat),Vals xs its∧h.get? a=some { cls:=.type "list", data:=.seq its.toArray n }
 | .tup xs=>xs.length≤sizeLine ∧ ∃ its:List Value,Vals xs its∧IsTup h a its.toArray
 | .dK kvs=>kvs.length≤sizeLine∧(a == sysModules)=false ∧ ∃ vs,KV kvs vs∧h.DictOf (Bo P w) a vs
 | .dT kvs=>kvs.length≤sizeLine∧(a == sysModules)=false ∧ ∃ xs:List (List Key × Addr × Value),
   Paired (fun (p:List Key × V) (q:List Key × Addr × Value)=>p.1=q.1∧H q.2.1=some (.tup (p.1.map kV))∧RelV p.2 q.2.2) kvs xs ∧
   ∃ o es ep,h.get? a=some o∧o.ExactDict∧o.data=.dict es ep∧es.toList=xs.map (entryOfKey (tupleKind (Bo P w)))∧(xs.map (·.1)).Nodup
 | .set S n=>h.SetOf (intKind P w) a S n
 | .ins C dx fs=>H dx=some (.own a)∧fs.length≤1000∧dx ≠ a∧h.get? a=some (PySem.W.instObj C dx) ∧
   ∃ mA,h.Ns1 dx mA∧(∀ f,HX (fs.lookup f) (mA f))∧PySem.Within mA (fs.map (·.1))
 | .own _ => ∃ o,h.get? a=some o
 | .xd fs => ∃ mA,h.Ns1 a mA ∧ ∀ f,HX (fs.lookup f) (mA f)
 | .rng lo hi => ∃ t u v,h.get? a=some { cls:=.type "range", data:=.fields #[.int lo t,.int hi u,.int 1 v] }
 | .frz o u=>h.get? a=some o∧cD H h a u
 | .tbl ps=>h.get? a=some { cls:=.none,data:=.fields ps }
 | .met f x=>h.get? a=some (PySem.W.methodObj (.ref f) (.ref x))
 | .ext φ=>φ h∧(∃ o,h.get? a=some o) ∧ ∀ h1 h2:Heap,φ h1→(∀ o,h1.get? a=some o→h2.get? a=some o)→φ h2
def HOk (H:Hp) (h:Heap):Prop := ∀ a o,H a=some o→cD P w H h a o
end
section
variable {P:Program} {w:World} {H H':Hp} {h h':Heap} {a:Addr} {o:HO}
theorem cD.lt (x:cD P w H h a o):a < h.objs.size:=by
 cases o with
 | lst xs=>obtain ⟨_,_,_,_,e⟩:=x; exact Heap.lt_size e
 | tup xs=>obtain ⟨_,_,_,p⟩:=x; exact p.lt
 | dK kvs=>obtain ⟨_,_,_,_,o,_,_,e,_⟩:=x; exact Heap.lt_size e
 | dT kvs=>obtain ⟨_,_,_,_,o,_,_,e,_⟩:=x; exact Heap.lt_size e
 | set S n=>obtain ⟨o,_,_,_,e,_⟩:=x; exact Heap.lt_size e
 | ins C dx fs=>obtain ⟨_,_,_,e,_⟩:=x; exact Heap.lt_size e
 | own y=>obtain ⟨_,e⟩:=x; exact Heap.lt_size e
 | xd fs=>obtain ⟨_,⟨_,_,_,e,_⟩,_⟩:=x; exact Heap.lt_size e
 | rng lo hi=>obtain ⟨_,_,_,e⟩:=x; exact Heap.lt_size e
 | frz ob u=>obtain ⟨e,_⟩:=x; exact Heap.lt_size e
 | tbl ps=>exact Heap.lt_size (show h.get? a=some _ from x)
 | met f y=>exact Heap.lt_size (show h.get? a=some _ from x)
 | ext φ=>obtain ⟨_,⟨_,e⟩,_⟩:=x; exact Heap.lt_size e
theorem Paired.mapP {α β:Type} {F G:α→β→Prop} : ∀ {l₁:List α} {l₂:List β},Paired F l₁ l₂→(∀ a b,F a b→G a b)→Paired G l₁ l₂
 | _,_,.nil,_=>.nil
 | _,_,.cons r t,f=>.cons (f _ _ r) (Paired.mapP t f)
theorem cD.stay (x:cD P w H h a o) (k : ∀ b u,(b=a∨H b=some (.own a))→h.get? b=some u→h'.get? b=some u)
  (ho : ∀ b,H b=some (.own a)→H' b=some (.own a)) (ht : ∀ b xs,H b=some (.tup xs)→H' b=some (.tup xs)):cD P w H' h' a o:=by
 induction o with
 | lst xs=>obtain ⟨z,its,n,r,e⟩:=x; exact ⟨z,its,n,r,k _ _ (.inl rfl) e⟩
 | tup xs=>obtain ⟨z,its,r,ob,e,c⟩:=x; exact ⟨z,its,r,ob,k _ _ (.inl rfl) e,c⟩
 | dK kvs=>obtain ⟨z,y,vs,r,ob,es,ep,e,c⟩:=x; exact ⟨z,y,vs,r,ob,es,ep,k _ _ (.inl rfl) e,c⟩
 | dT kvs =>
  obtain ⟨z,y,xs,r,ob,es,ep,e,c⟩:=x
  exact ⟨z,y,xs,Paired.mapP r fun p q z=>⟨z.1,ht _ _ z.2.1,z.2.2⟩,ob,es,ep,k _ _ (.inl rfl) e,c⟩
 | set S n=>obtain ⟨ob,es,ep,t,e,c⟩:=x; exact ⟨ob,es,ep,t,k _ _ (.inl rfl) e,c⟩
 | ins C dx fs =>
  obtain ⟨d,z,ne,e,mA,⟨od,es,ep,e2,c⟩,r⟩:=x
  exact ⟨ho _ d,z,ne,k _ _ (.inl rfl) e,mA,⟨od,es,ep,k _ _ (.inr d) e2,c⟩,r⟩
 | own y=>obtain ⟨ob,e⟩:=x; exact ⟨ob,k _ _ (.inl rfl) e⟩
 | xd fs=>obtain ⟨mA,⟨od,es,ep,e,c⟩,r⟩:=x; exact ⟨mA,⟨od,es,ep,k _ _ (.inl rfl) e,c⟩,r⟩
 | rng lo hi=>obtain ⟨t,u,v,e⟩:=x; exact ⟨t,u,v,k _ _ (.inl rfl) e⟩
 | frz ob u ih=>obtain ⟨e,q⟩:=x; exact ⟨k _ _ (.inl rfl) e,ih q⟩
 | tbl ps =>
  have e:h.get? a=some { cls:=.none,data:=.fields ps }:=x
  show h'.get? a=some { cls:=.none,data:=.fields ps }
  exact k a _ (.inl rfl) e
 | met f y =>
  have e:h.get? a=some (PySem.W.methodObj (.ref f) (.ref y)):=x
  show h'.get? a=some (PySem.W.methodObj (.ref f) (.ref y))
  exact k a _ (.inl rfl) e
 | ext φ=>obtain ⟨p,⟨o,e⟩,st⟩:=x; exact ⟨st _ _ p fun o q=>k _ _ (.inl rfl) q,⟨o,k _ _ (.inl rfl) e⟩,st⟩
theorem HOk.lt (x:HOk P w H h) (e:H a=some o):a < h.objs.size:=(x a o e).lt
theorem HOk.fresh (x:HOk P w H h) (e:h.objs.size≤a):H a=none:=by
 cases q:H a with
 | none=>rfl
 | some u=>exact absurd (Nat.lt_of_lt_of_le (x.lt q) e) (Nat.lt_irrefl _)
theorem HOk.kept (x:HOk P w H h) (k : ∀ b u,h.get? b=some u→h'.get? b=some u):HOk P w H h':=fun a o e =>
 (x a o e).stay (fun b u _ q=>k b u q) (fun _ q=>q) fun _ _ q=>q
theorem HOk.laid (x:HOk P w H h) (k : ∀ b u,h.get? b=some u→h'.get? b=some u) (hp:h.objs.size≤a) (new:cD P w (upd H a o) h' a o):HOk P w (upd H a o) h':=fun b u e=>by
 have hn:=x.fresh hp
 by_cases hb:b=a
 ·subst hb; rw [az] at e; cases e; exact new
 ·rw [aJ hb] at e
  exact (x b u e).stay (fun c v _ q=>k c v q) (fun c q=>by rw [aJ (aN q hn)]; exact q) fun c xs q=>by rw [aJ (aN q hn)]; exact q
end
def Rd (H:Hp) (a:Addr) (u:HO):Prop:=H a=some u ∨ ∃ o,H a=some (.frz o u)
theorem Rd.ok {P:Program} {w:World} {H:Hp} {h:Heap} {a:Addr} {u:HO} (r:Rd H a u) (x:HOk P w H h):cD P w H h a u:=by
 rcases r with r | ⟨o,r⟩
 ·exact x a u r
 ·obtain ⟨_,q⟩:=x a _ r
  exact q
def Mut:Option HO→Prop
 | some (.lst _)=>True
 | some (.dK _)=>True
 | some (.dT _)=>True
 | some (.set _ _)=>True
 | some (.ins _ _ _)=>True
 | some (.ext _)=>True
 | _=>False
section
variable {P:Program} {w:World} {H:Hp} {h h':Heap} {x e:Addr} {o':HO}
theorem HOk.write (ok:HOk P w H h) (mu:Mut (H x)) (he:e=x∨H e=some (.own x)) (k : ∀ b u,b ≠ e→h.get? b=some u→h'.get? b=some u) (heo : ∃ u,h'.get? e=some u)
  (new:cD P w (upd H x o') h' x o'):HOk P w (upd H x o') h':=fun b u q=>by
 have nown : ∀ c y,H c=some (.own y)→c ≠ x:=fun c y r z=>by subst z; rw [r] at mu; exact mu
 have ntup : ∀ c xs,H c=some (.tup xs)→c ≠ x:=fun c xs r z=>by subst z; rw [r] at mu; exact mu
 by_cases hb:b=x
 ·subst hb; rw [az] at q; cases q; exact new
 ·rw [aJ hb] at q
  by_cases hbe:b=e
  ·have q':H b=some (.own x):=by
    rcases he with z | z
    ·exact absurd (hbe.trans z) hb
    ·rw [hbe]; exact z
   rw [q] at q'; cases q'
   obtain ⟨v,hv⟩:=heo
   exact ⟨v,by rw [hbe]; exact hv⟩
  ·refine (ok b u q).stay (fun c v hc r=>k c v ?_ r) (fun c r=>by rw [aJ (nown c b r)]; exact r) fun c xs r=>by rw [aJ (ntup c xs r)]; exact r
   rcases hc with rfl | hc
   ·exact hbe
   ·rintro rfl
    rcases he with z | z
    ·exact nown c b hc z
    ·rw [hc] at z; cases z; exact hb rfl
end
structure Un (fs ex:List Addr) (H H':Hp) (h h':Heap):Prop where
 keep : ∀ b o,h.get? b=some o→H b=none→b ∉ fs→b ∉ ex→h'.get? b=some o
 slot : ∀ b o,h.get? b=some o→H b=none→b∈fs→b ∉ ex → ∃ sl,h'.get? b=some { o with slots:=sl }
 free : ∀ b o,h.get? b=some o→H b=none→b ∉ ex→H' b=none
 there : ∀ b o,h.get? b=some o→b ∉ ex → ∃ o',h'.get? b=some o'
 tups : ∀ b xs,H b=some (.tup xs)→H' b=some (.tup xs)
 frzs : ∀ b o u,H b=some (.frz o u)→H' b=some (.frz o u)
 tbls : ∀ b ps,H b=some (.tbl ps) → ∃ more,H' b=some (.tbl (ps ++ more))
section
variable {fs fs' ex ex':List Addr} {H H1 H2:Hp} {h h1 h2 h':Heap} {a x e:Addr} {o:HO}
theorem Un.any (u:Un fs ex H H1 h h1) {b:Addr} {ob:Obj} (q:h.get? b=some ob) (n:H b=none) (hx:b ∉ ex) : ∃ sl,h1.get? b=some { ob with slots:=sl }:=by
 by_cases hb:b∈fs
 ·exact u.slot b ob q n hb hx
 ·exact ⟨ob.slots,u.keep b ob q n hb hx⟩
theorem Un.kept (k : ∀ b u,h.get? b=some u→h'.get? b=some u):Un fs ex H H h h' :=
 ⟨fun b ob q _ _ _=>k b ob q,fun b ob q _ _ _=>⟨ob.slots,k b ob q⟩,fun _ _ _ n _=>n,fun b ob q _=>⟨ob,k b ob q⟩,fun _ _ q=>q,fun _ _ _ q=>q,fun _ ps q=>⟨#[],by rw [q]; simp⟩⟩
theorem Un.refl:Un fs ex H H h h:=Un.kept fun _ _ q=>q
theorem Un.laid (k : ∀ b u,h.get? b=some u→h'.get? b=some u) (hp:h.objs.size≤a) (hn:H a=none):Un fs ex H (upd H a o) h h' where
 keep:=fun b u q _ _ _=>k b u q
 slot:=fun b u q _ _ _=>⟨u.slots,k b u q⟩
 free:=fun b u q n _=>by rw [aJ (Nat.ne_of_lt (Nat.lt_of_lt_of_le (Heap.lt_size q) hp))]; exact n
 there:=fun b u q _=>⟨u,k b u q⟩
 tups:=fun b xs q=>by rw [aJ (aN q hn)]; exact q
 frzs:=fun b u xs q=>by rw [aJ (aN q hn)]; exact q
 tbls:=fun b ps q=>⟨#[],by rw [aJ (aN q hn),q]; simp⟩
theorem Un.write (mu:Mut (H x)) (he:e=x∨H e=some (.own x)) (k : ∀ b u,b ≠ e→h.get? b=some u→h'.get? b=some u) (heo : ∃ u,h'.get? e=some u):Un fs ex H (upd H x o) h h':=by
 have hx : ∀ b,H b=none→b ≠ x:=fun b n z=>by subst z; rw [n] at mu; exact mu
 have hb : ∀ b,H b=none→b ≠ e:=fun b n z=>by
  subst z
  rcases he with r | r
  ·exact hx b n r
  ·rw [n] at r; cases r
 have hm : ∀ b u,H b=some u → ¬ Mut (some u)→b ≠ x:=fun b u q nm z=>by subst z; rw [q] at mu; exact nm mu
 refine ⟨fun b u q n _ _=>k b u (hb b n) q,fun b u q n _ _=>⟨u.slots,k b u (hb b n) q⟩,fun b u q n _=>by rw [aJ (hx b n)]; exact n,fun b u q _=>?_,
  fun b xs q=>by rw [aJ (hm b _ q fun z=>z)]; exact q,fun b u xs q=>by rw [aJ (hm b _ q fun z=>z)]; exact q,fun b ps q=>⟨#[],by rw [aJ (hm b _ q fun z=>z),q]; simp⟩⟩
 by_cases hbe:b=e
 ·subst hbe; exact heo
 ·exact ⟨u,k b u hbe q⟩
end
def trk (h:Heap) (H:Hp):List Addr:=(List.range h.objs.size).filter fun a=>(H a).isSome
def sI (h:Heap) (H:Hp):Heap:=PySem.W.hideAll h (trk h H)
theorem Dd (h:Heap) (H:Hp):(sI h H).objs.size=h.objs.size:=PySem.W.hideAll_size _ _
theorem FW {h:Heap} {H:Hp} {b:Addr} {o:Obj} (e:h.get? b=some o) (n:H b=none):(sI h H).get? b=some o :=
 PySem.W.hideAll_get _ e fun hm=>by
  have q:(H b).isSome=true:=(List.mem_filter.mp hm).2
  rw [n] at q; simp at q
theorem GK {h:Heap} {H:Hp} {b:Addr} {o:Obj} (e:(sI h H).get? b=some o):h.get? b=some o∧H b=none:=by
 have e':h.get? b=some o:=PySem.W.of_hideAll (trk h H) e
 refine ⟨e',?_⟩
 cases q:H b with
 | none=>rfl
 | some x =>
  have hm:b∈trk h H:=List.mem_filter.mpr ⟨List.mem_range.mpr (Heap.lt_size e'),by simp [q]⟩
  have z:(sI h H).get? b=none:=PySem.W.hideAll_none (trk h H) hm
  rw [z] at e; cases e
def Gi (g h:Heap) (L:Addr):List (Addr × Obj):=(List.range h.objs.size).filterMap fun a=>if a=L∨(g.get? a).isSome=true then none else (h.get? a).map fun o=>(a,o)
def rest (g h:Heap) (L d:Addr):List (Addr × Obj):=(Gi g h L).filter fun p=>decide (p.1 ≠ d)
end L2
namespace L2
open PySem PySem.Spec PyProof.Rows
structure Mod (K:PySem.W.Frag) (mg:Str→Option Value) (base:Heap):Prop where
 kin:K.In base
 glob:base.Ns mainGlobals mg
 blt : ∃ mb,base.Ns builtinsNs mb ∧ ∀ x:Str,x ≠ "__name__" → mb x=bootBuiltins x
 nolimit:base.NoLimit
structure Cx where
 prog:Program
 w:World
 K:PySem.W.Frag
 mg:Str→Option Value
 base:Heap
 A:Around
 N:List Str
 s₀:Shared
 H₀:Hp
 env:Env
 outer:List Env
 stack:List Env
 ex:List Addr
 fn:Str→Bool
 calm:Bool
 pn:List (Addr × Obj)
 xe:Value→Shared→Prop
def frs (l:List Env):List Addr:=l.filterMap (·.frame)
abbrev Cx.fs (X:Cx):List Addr:=frs X.outer
def Vis (sc:Scope) (x:Str):Prop:=sc.names.lookup x=some .local∨sc.names.lookup x=some .cell∨sc.names.lookup x=some .free
def Loc (sc:Scope) (x:Str):Prop:=sc.names.lookup x=some .local∨sc.names.lookup x=some .cell
def Look (env:Env) (h:Heap) (m:Str→Option Value) (x:Str) (u:Value):Prop :=
 (env.kindOf x=some .local∧m x=some u)∨((env.kindOf x=some .cell∨env.kindOf x=some .free) ∧ ∃ c,env.cells.lookup x=some c∧h.IsCell c (some u))
structure Cx.Ok (X:Cx):Prop where
 mod:Mod X.K X.mg X.base
 kind:X.env.scope.kind=.function
 glob:X.env.globals=mainGlobals
 blt:X.env.builtins=builtinsNs
 above:X.s₀.heap.objs.size≤X.env.locals
 inj : ∀ x y c,X.env.cells.lookup x=some c→X.env.cells.lookup y=some c→x=y
 has : ∀ x,(X.env.kindOf x=some .cell∨X.env.kindOf x=some .free) → ∃ c,X.env.cells.lookup x=some c
 cab : ∀ x c,X.fn x=true→X.env.cells.lookup x=some c→X.s₀.heap.objs.size≤c
 hd:X.calm=true→X.A.handled=none
 frames:X.A.frames=some X.stack
 stk:X.stack=X.outer∨(X.stack=X.env :: X.outer∧X.env.frame=some X.env.locals)
 exf : ∀ b∈X.ex,b ≠ X.env.locals ∧ ∀ x c,X.env.cells.lookup x=some c→c ≠ b
 bs : ∀ b o,X.base.get? b=some o→X.s₀.heap.get? b=some o∧X.H₀ b=none
 bsz:X.base.objs.size≤X.s₀.heap.objs.size
 noex : ∀ b o,X.base.get? b=some o→b ∉ X.ex
 exfs : ∀ b∈X.ex,b ∉ X.fs
 funs:X.s₀.heap.FunFrames X.base X.outer
 frf : ∀ b∈X.fs,X.H₀ b=none
structure Inv (X:Cx) (pins:List (Addr × Obj)) (σ:List (Option V)) (H:Hp) (s:Shared):Prop where
 ok:X.Ok
 os:s.os=X.s₀.os
 bare:AllBare s.gens
 base:Un X.fs X.ex X.H₀ H X.s₀.heap s.heap
 loc : ∃ m,s.heap.Ns X.env.locals m ∧ ∀ (i:Nat) (x:Str) (v:V),X.N[i]?=some x→σ[i]?=some (some v)→Vis X.env.scope x → ∃ u,RelV v u∧Look X.env s.heap m x u
 cell : ∀ x c,X.env.cells.lookup x=some c → ∃ v,s.heap.IsCell c v
 free:H X.env.locals=none
 freeC : ∀ x c,X.env.cells.lookup x=some c→H c=none
 pin : ∀ p∈X.pn ++ pins,s.heap.get? p.1=some p.2∧H p.1=none∧p.1 ≠ X.env.locals∧p.1 ∉ X.fs ∧ ∀ v,p.2.data ≠ .cell v
 hok:HOk X.prog X.w H s.heap
 len:σ.length=X.N.length
section
variable {X:Cx} {pins:List (Addr × Obj)} {σ:List (Option V)} {H H':Hp} {s:Shared} {h':Heap}
theorem Cx.Ok.nofr (ok:X.Ok) {b:Addr} {o:Obj} (e:X.base.get? b=some o):b ∉ X.fs:=fun hb=>by
 have:=(ok.funs.mem hb).1
 rw [e] at this; cases this
theorem Inv.bs (I:Inv X pins σ H s) : ∀ b o,X.base.get? b=some o→s.heap.get? b=some o∧H b=none:=fun b o e =>
 ⟨I.base.keep b o (I.ok.bs b o e).1 (I.ok.bs b o e).2 (I.ok.nofr e) (I.ok.noex b o e),I.base.free b o (I.ok.bs b o e).1 (I.ok.bs b o e).2 (I.ok.noex b o e)⟩
theorem Inv.bk (I:Inv X pins σ H s) : ∀ b o,X.base.get? b=some o→s.heap.get? b=some o:=fun b o e=>(I.bs b o e).1
theorem Inv.mod (I:Inv X pins σ H s):Mod X.K X.mg X.base:=I.ok.mod
theorem Inv.kIn (I:Inv X pins σ H s):X.K.In s.heap:=I.ok.mod.kin.keeps I.bk
theorem Inv.lt (I:Inv X pins σ H s):X.env.locals < s.heap.objs.size:=let ⟨_,hn,_⟩:=I.loc; hn.lt
theorem Inv.sz (I:Inv X pins σ H s):X.s₀.heap.objs.size≤s.heap.objs.size:=Nat.le_trans I.ok.above (Nat.le_of_lt I.lt)
theorem Inv.nofs (I:Inv X pins σ H s) {a:Addr} (h:s.heap.objs.size≤a):a ∉ X.fs:=fun hb=>by
 obtain ⟨_,o,ho,_⟩:=I.ok.funs.mem hb
 exact absurd (Nat.lt_of_lt_of_le (Heap.lt_size ho) (Nat.le_trans I.sz h)) (Nat.lt_irrefl _)
theorem Inv.cne (I:Inv X pins σ H s) : ∀ x c,X.env.cells.lookup x=some c→c ≠ X.env.locals:=fun x c e z=>by
 obtain ⟨v,o,ho,hd⟩:=I.cell x c e
 obtain ⟨m,⟨o',es,ep,ho',hd',_⟩,_⟩:=I.loc
 rw [z,ho'] at ho; cases ho; rw [hd'] at hd; cases hd
theorem Inv.funs (I:Inv X pins σ H s):s.heap.FunFrames X.base X.outer:=by
 have all : ∀ (l:List Env),(∀ b∈frs l,b∈X.fs)→X.s₀.heap.FunFrames X.base l→s.heap.FunFrames X.base l:=by
  intro l
  induction l with
  | nil=>intro _ _; trivial
  | cons env r ih =>
   intro hs hl
   obtain ⟨hk,⟨L,o,hf,hn,ho,hd⟩,hr⟩:=hl
   have hL:L∈X.fs:=hs L (by unfold frs; rw [List.filterMap_cons,hf]; exact List.mem_cons_self)
   obtain ⟨sl,e⟩:=I.base.slot L o ho (I.ok.frf L hL) hL fun z=>I.ok.exfs L z hL
   exact ⟨hk,⟨L,_,hf,hn,e,hd⟩,ih (fun b hb=>hs b (by unfold frs; rw [List.filterMap_cons,hf]; exact List.mem_cons_of_mem _ hb)) hr⟩
 exact all X.outer (fun _ hb=>hb) I.ok.funs
theorem Inv.stack (I:Inv X pins σ H s):s.heap.FunFrames X.base X.stack:=by
 rcases I.ok.stk with e | ⟨e,hf⟩
 ·rw [e]; exact I.funs
 ·rw [e]
  obtain ⟨m,hn,_⟩:=I.loc
  refine .cons (by rw [I.ok.kind]; decide) hf hn ?_ I.funs
  exact Heap.get?_none_of_le (Nat.le_trans I.ok.bsz I.ok.above)
theorem Inv.stkSub (I:Inv X pins σ H s) : ∀ b∈frs X.stack,b∈X.env.locals :: X.fs:=fun b hb=>by
 rcases I.ok.stk with e | ⟨e,hf⟩
 ·rw [e] at hb; exact List.mem_cons_of_mem _ hb
 ·rw [e] at hb
  unfold frs at hb
  rw [List.filterMap_cons,hf] at hb
  exact hb
theorem Inv.stkFree (I:Inv X pins σ H s) : ∀ b∈frs X.stack,H b=none:=fun b hb=>by
 rcases List.mem_cons.mp (I.stkSub b hb) with e | hb
 ·rw [e]; exact I.free
 ·obtain ⟨_,o,ho,_⟩:=I.ok.funs.mem hb
  exact I.base.free b o ho (I.ok.frf b hb) fun z=>I.ok.exfs b z hb
theorem Inv.step {g':Array GenState} {t':Nat} {d':Drawn} {ch:List Addr} (I:Inv X pins σ H s)
  (hch : ∀ b∈ch,(b∈X.ex∨X.s₀.heap.objs.size≤b)∧b ≠ X.env.locals∧(∀ x c,X.env.cells.lookup x=some c→c ≠ b) ∧ ∀ p∈X.pn ++ pins,p.1 ≠ b)
  (keep : ∀ b o,b ≠ X.env.locals→b ∉ X.fs→b ∉ ch→s.heap.get? b=some o→H b=none→h'.get? b=some o)
  (slot : ∀ b o,b ≠ X.env.locals→b∈X.fs→b ∉ ch→s.heap.get? b=some o→H b=none → ∃ sl,h'.get? b=some { o with slots:=sl }) (free : ∀ b o,b ∉ ch→s.heap.get? b=some o→H b=none→H' b=none)
  (there : ∀ b o,b ∉ ch→s.heap.get? b=some o → ∃ o',h'.get? b=some o')
  (tups : ∀ b xs,H b=some (.tup xs)→H' b=some (.tup xs)) (frzs : ∀ b o u,H b=some (.frz o u)→H' b=some (.frz o u)) (tbls : ∀ b ps,H b=some (.tbl ps) → ∃ more,H' b=some (.tbl (ps ++ more)))
  (ns : ∀ m,s.heap.Ns X.env.locals m→h'.Ns X.env.locals m) (hok:HOk X.prog X.w H' h') (hg:AllBare g') :
  Inv X pins σ H' { s with heap:=h',gens:=g',drawn:=d',toks:=t' }:=by
 have neL : ∀ b o,X.s₀.heap.get? b=some o→b ≠ X.env.locals:=fun b o e=>Nat.ne_of_lt (Nat.lt_of_lt_of_le (Heap.lt_size e) I.ok.above)
 have neC : ∀ b o,X.s₀.heap.get? b=some o→b ∉ X.ex→b ∉ ch:=fun b o e hx hb=>by
  rcases (hch b hb).1 with z | z
  ·exact hx z
  ·exact absurd (Nat.lt_of_lt_of_le (Heap.lt_size e) z) (Nat.lt_irrefl _)
 have cellK : ∀ x c,X.env.cells.lookup x=some c → ∀ v,s.heap.IsCell c v→h'.IsCell c v:=fun x c e v ⟨o,ho,hd⟩=>by
  have nch:c ∉ ch:=fun z=>(hch c z).2.2.1 x c e rfl
  by_cases hc:c∈X.fs
  ·obtain ⟨sl,q⟩:=slot c o (I.cne x c e) hc nch ho (I.freeC x c e)
   exact ⟨_,q,hd⟩
  ·exact ⟨o,keep c o (I.cne x c e) hc nch ho (I.freeC x c e),hd⟩
 refine ⟨I.ok,I.os,hg,⟨fun b o e n hb hx=>?_,fun b o e n hb hx=>?_,fun b o e n hx=>?_,fun b o e hx=>?_,fun b xs e=>tups b xs (I.base.tups b xs e),fun b o xs e=>frzs b o xs (I.base.frzs b o xs e),fun b ps e=>?_⟩,?_,fun x c e=>?_,?_,fun x c e=>?_,fun p hp=>?_,hok,I.len⟩
 ·exact keep b o (neL b o e) hb (neC b o e hx) (I.base.keep b o e n hb hx) (I.base.free b o e n hx)
 ·obtain ⟨sl,e1⟩:=I.base.slot b o e n hb hx
  obtain ⟨sl',e2⟩:=slot b _ (neL b o e) hb (neC b o e hx) e1 (I.base.free b o e n hx)
  exact ⟨sl',e2⟩
 ·obtain ⟨o',e1⟩:=I.base.there b o e hx
  exact free b o' (neC b o e hx) e1 (I.base.free b o e n hx)
 ·obtain ⟨o',e1⟩:=I.base.there b o e hx
  exact there b o' (neC b o e hx) e1
 ·obtain ⟨m1,e1⟩:=I.base.tbls b ps e
  obtain ⟨m2,e2⟩:=tbls b _ e1
  exact ⟨m1 ++ m2,by rw [e2,Array.append_assoc]⟩
 ·obtain ⟨m,hn,hl⟩:=I.loc
  refine ⟨m,ns m hn,fun i x v e1 e2 e3=>?_⟩
  obtain ⟨u,r,l⟩:=hl i x v e1 e2 e3
  refine ⟨u,r,?_⟩
  rcases l with l | ⟨k,c,e,z⟩
  ·exact .inl l
  ·exact .inr ⟨k,c,e,cellK x c e _ z⟩
 ·obtain ⟨v,z⟩:=I.cell x c e
  exact ⟨v,cellK x c e v z⟩
 ·obtain ⟨m,⟨o,_,_,ho,_⟩,_⟩:=I.loc
  exact free _ o (fun z=>(hch _ z).2.1 rfl) ho I.free
 ·obtain ⟨v,o,ho,hd⟩:=I.cell x c e
  exact free c o (fun z=>(hch c z).2.2.1 x c e rfl) ho (I.freeC x c e)
 ·obtain ⟨e,n,ne,nf,d⟩:=I.pin p hp
  have nch:p.1 ∉ ch:=fun z=>(hch p.1 z).2.2.2 p hp rfl
  exact ⟨keep p.1 p.2 ne nf nch e n,free p.1 p.2 nch e n,ne,nf,d⟩
theorem Inv.un {t':Nat} (I:Inv X pins σ H s) (u:Un X.fs [] H H' s.heap h') (hok:HOk X.prog X.w H' h'):Inv X pins σ H' { s with heap:=h',toks:=t' }:=by
 obtain ⟨m,⟨o,es,ep,ho,r⟩,_⟩:=id I.loc
 obtain ⟨sl,hL⟩:=u.any ho I.free (by simp)
 exact I.step (g':=s.gens) (d':=s.drawn) (ch:=[]) (fun _ z=>nomatch z) (fun b o _ hb _ e n=>u.keep b o e n hb (by simp)) (fun b o _ hb _ e n=>u.slot b o e n hb (by simp)) (fun b o _ e n=>u.free b o e n (by simp)) (fun b o _ e=>u.there b o e (by simp)) u.tups u.frzs u.tbls (fun m' hm=>by
  obtain ⟨o',es',ep',ho',r'⟩:=hm
  rw [ho] at ho'; cases ho'
  exact ⟨_,es',ep',hL,r'⟩) hok I.bare
theorem Inv.call {g':Array GenState} {t':Nat} {d':Drawn} {ch:List Addr} (I:Inv X pins σ H s) (u:Un (frs X.stack) ch H H' s.heap h') (hok:HOk X.prog X.w H' h') (hg:AllBare g')
  (hch : ∀ b∈ch,(b∈X.ex∨X.s₀.heap.objs.size≤b)∧b ≠ X.env.locals∧(∀ x c,X.env.cells.lookup x=some c→c ≠ b) ∧ ∀ p∈X.pn ++ pins,p.1 ≠ b) :
  Inv X pins σ H' { s with heap:=h',gens:=g',drawn:=d',toks:=t' }:=by
 obtain ⟨m,⟨o,es,ep,ho,r⟩,_⟩:=id I.loc
 obtain ⟨sl,hL⟩:=u.any ho I.free fun z=>(hch _ z).2.1 rfl
 exact I.step (ch:=ch) hch (fun b o hL hb hc e n=>u.keep b o e n (fun z=>(List.mem_cons.mp (I.stkSub b z)).elim hL hb) hc) (fun b o _ _ hc e n=>u.any e n hc) (fun b o hc e n=>u.free b o e n hc) (fun b o hc e=>u.there b o e hc) u.tups u.frzs u.tbls (fun m' hm=>by
  obtain ⟨o',es',ep',ho',r'⟩:=hm
  rw [ho] at ho'; cases ho'
  exact ⟨_,es',ep',hL,r'⟩) hok hg
theorem Inv.turned {t':Nat} {it:Addr} (I:Inv X pins σ H s) (k : ∀ b o,b ≠ it→s.heap.get? b=some o→h'.get? b=some o) (hn:H it=none) (hL:it ≠ X.env.locals)
  (h1:it∈X.ex∨X.s₀.heap.objs.size≤it) (h2 : ∀ x c,X.env.cells.lookup x=some c→c ≠ it) (h3 : ∀ p∈X.pn ++ pins,p.1 ≠ it):Inv X pins σ H { s with heap:=h',toks:=t' }:=by
 have nit : ∀ b u,H b=some u→b ≠ it:=fun b u e z=>by rw [z,hn] at e; cases e
 refine I.step (g':=s.gens) (d':=s.drawn) (ch:=[it]) (fun b hb=>?_) (fun b o _ _ hc e _=>k b o (fun z=>hc (by simp [z])) e) (fun b o _ _ hc e _=>⟨o.slots,k b o (fun z=>hc (by simp [z])) e⟩) (fun _ _ _ _ n=>n)
  (fun b o hc e=>⟨o,k b o (fun z=>hc (by simp [z])) e⟩) (fun _ _ e=>e) (fun _ _ _ e=>e) (fun b ps e=>⟨#[],by rw [e]; simp⟩) (fun m hm=>?_) (fun b u e=>?_) I.bare
 ·have e:b=it:=by simpa using hb
  subst e
  exact ⟨h1,hL,h2,h3⟩
 ·obtain ⟨o,es,ep,ho,r⟩:=hm
  exact ⟨o,es,ep,k _ o (Ne.symm hL) ho,r⟩
 ·refine (I.hok b u e).stay (fun c v hc q=>k c v ?_ q) (fun _ q=>q) fun _ _ q=>q
  rcases hc with z | z
  ·rw [z]; exact nit b u e
  ·exact nit c _ z
theorem Inv.tok (I:Inv X pins σ H s) (t:Nat):Inv X pins σ H { s with toks:=t }:=I.un (h':=s.heap) (t':=t) Un.refl I.hok
theorem Inv.kept {t':Nat} (I:Inv X pins σ H s) (k : ∀ b u,s.heap.get? b=some u→h'.get? b=some u):Inv X pins σ H { s with heap:=h',toks:=t' }:=I.un (Un.kept k) (I.hok.kept k)
theorem Inv.laid {a:Addr} {o:HO} {t':Nat} (I:Inv X pins σ H s) (k : ∀ b u,s.heap.get? b=some u→h'.get? b=some u) (hp:s.heap.objs.size≤a) (new:cD X.prog X.w (upd H a o) h' a o) :
  Inv X pins σ (upd H a o) { s with heap:=h',toks:=t' }:=I.un (Un.laid k hp (I.hok.fresh hp)) (I.hok.laid k hp new)
theorem Inv.write {x e:Addr} {o:HO} {t':Nat} (I:Inv X pins σ H s) (mu:Mut (H x)) (he:e=x∨H e=some (.own x)) (k : ∀ b u,b ≠ e→s.heap.get? b=some u→h'.get? b=some u) (heo : ∃ u,h'.get? e=some u)
  (new:cD X.prog X.w (upd H x o) h' x o):Inv X pins σ (upd H x o) { s with heap:=h',toks:=t' }:=I.un (Un.write mu he k heo) (I.hok.write mu he k heo new)
theorem Inv.pins_of {pins':List (Addr × Obj)} (I:Inv X pins σ H s) (h : ∀ p∈pins',s.heap.get? p.1=some p.2∧H p.1=none∧p.1 ≠ X.env.locals∧p.1 ∉ X.fs ∧ ∀ v,p.2.data ≠ .cell v):Inv X pins' σ H s :=
 ⟨I.ok,I.os,I.bare,I.base,I.loc,I.cell,I.free,I.freeC,fun p hp=>(List.mem_append.mp hp).elim (fun z=>I.pin p (List.mem_append_left _ z)) (h p),I.hok,I.len⟩
theorem yR {N:List Str} (hN:N.Nodup) {i j:Nat} {x:Str} (a:N[i]?=some x) (b:N[j]?=some x):i=j:=by
 obtain ⟨h1,e1⟩:=List.getElem?_eq_some_iff.mp a
 obtain ⟨h2,e2⟩:=List.getElem?_eq_some_iff.mp b
 exact (List.getElem_inj hN).mp (e1.trans e2.symm)
theorem vg {M:Model} {A:Around} {E:Value→Shared→Prop} {i:Nat} {x:Str} {v:V} {u:Value} {Q:Unit→Shared→Prop} (I:Inv X pins σ H s) (hN:X.N.Nodup) (hi:X.N[i]?=some x) (hx:Loc X.env.scope x) (r:RelV v u)
  (h : ∀ s',Inv X pins (σ.set i (some v)) H s'→(∃ a,Heap.SameBut a s.heap s'.heap∧(a=X.env.locals∨X.env.cells.lookup x=some a))→Q () s') (hf:X.fn x=true∨X.env.scope.names.lookup x=some .local:=by first | exact .inl rfl | exact .inr rfl | assumption):wpAny M A (storeName X.env x u) Q E s:=by
 obtain ⟨m,hn,hl⟩:=id I.loc
 have hcls:(X.env.scope.kind == .class || (X.env.scope.kind == .module && X.env.locals != X.env.globals))=false:=by rw [I.ok.kind]; rfl
 have hiσ:i < σ.length:=by rw [I.len]; exact (List.getElem?_eq_some_iff.mp hi).1
 have cne:=I.cne
 have tracked : ∀ {a:Addr} {h':Heap},(∃ o,s.heap.get? a=some o∧H a=none)→Heap.SameBut a s.heap h'→HOk X.prog X.w H h':=fun {a h'} ha hs b ob e=>by
  obtain ⟨_,_,hfree⟩:=ha
  refine (I.hok b ob e).stay (fun c w' hc q=>(hs.2 c ?_).trans q) (fun _ q=>q) fun _ _ q=>q
  rintro rfl
  rcases hc with rfl | hc
  ·rw [hfree] at e; cases e
  ·rw [hfree] at hc; cases hc
 rcases hx with hk | hk
 ·refine wpAny_storeName_local hk hn (fun h' hn' hs=>?_) hcls
  obtain ⟨oL,_,_,hoL,_⟩:=id hn
  refine h _ ⟨I.ok,I.os,I.bare,⟨fun b o e n hb hx=>?_,fun b o e n hb hx=>?_,I.base.free,fun b o e hx=>?_,I.base.tups,I.base.frzs,I.base.tbls⟩,⟨_,hn',fun j y v' e1 e2 e3=>?_⟩,fun y c e=>?_,I.free,I.freeC,fun p hp=>?_,tracked ⟨oL,hoL,I.free⟩ hs,by simpa using I.len⟩ ⟨_,hs,.inl rfl⟩
  ·exact (hs.2 b (Nat.ne_of_lt (Nat.lt_of_lt_of_le (Heap.lt_size e) I.ok.above))).trans (I.base.keep b o e n hb hx)
  ·obtain ⟨sl,e1⟩:=I.base.slot b o e n hb hx
   exact ⟨sl,(hs.2 b (Nat.ne_of_lt (Nat.lt_of_lt_of_le (Heap.lt_size e) I.ok.above))).trans e1⟩
  ·obtain ⟨o',e1⟩:=I.base.there b o e hx
   exact ⟨o',(hs.2 b (Nat.ne_of_lt (Nat.lt_of_lt_of_le (Heap.lt_size e) I.ok.above))).trans e1⟩
  ·by_cases hj:j=i
   ·subst hj
    rw [hi] at e1; cases e1
    rw [List.getElem?_set_self hiσ] at e2
    cases e2
    exact ⟨u,r,.inl ⟨hk,by simp⟩⟩
   ·rw [List.getElem?_set_ne (Ne.symm hj)] at e2
    obtain ⟨u',r',q⟩:=hl j y v' e1 e2 e3
    refine ⟨u',r',?_⟩
    rcases q with ⟨k,e⟩ | ⟨k,c,e,z⟩
    ·refine .inl ⟨k,?_⟩
     have:y ≠ x:=fun e=>hj (yR hN e1 (e ▸ hi))
     simp [this,e]
    ·exact .inr ⟨k,c,e,z.sameBut hs (cne y c e)⟩
  ·obtain ⟨w',z⟩:=I.cell y c e
   exact ⟨w',z.sameBut hs (cne y c e)⟩
  ·obtain ⟨e,n,ne,nf,d⟩:=I.pin p hp
   exact ⟨(hs.2 p.1 ne).trans e,n,ne,nf,d⟩
 ·have hfn:X.fn x=true:=by
   rcases hf with z | z
   ·exact z
   ·rw [z] at hk; cases hk
  obtain ⟨c,hc⟩:=I.ok.has x (.inl hk)
  obtain ⟨w',z⟩:=I.cell x c hc
  refine wpAny_storeName_cell I.ok.kind hk hc z (fun h' hc' hs=>?_)
  obtain ⟨oc,hoc,hocd⟩:=id z
  refine h { s with heap:=h' } ⟨I.ok,I.os,I.bare,⟨fun b o e n hb hx=>?_,fun b o e n hb hx=>?_,I.base.free,fun b o e hx=>?_,I.base.tups,I.base.frzs,I.base.tbls⟩,⟨m,hn.sameBut hs (Ne.symm (cne x c hc)),fun j y v' e1 e2 e3=>?_⟩,fun y c' e=>?_,I.free,I.freeC,fun p hp=>?_,tracked ⟨oc,hoc,I.freeC x c hc⟩ hs,by simpa using I.len⟩ ⟨c,hs,.inr hc⟩
  ·exact (hs.2 b (Nat.ne_of_lt (Nat.lt_of_lt_of_le (Heap.lt_size e) (I.ok.cab x c hfn hc)))).trans (I.base.keep b o e n hb hx)
  ·obtain ⟨sl,e1⟩:=I.base.slot b o e n hb hx
   exact ⟨sl,(hs.2 b (Nat.ne_of_lt (Nat.lt_of_lt_of_le (Heap.lt_size e) (I.ok.cab x c hfn hc)))).trans e1⟩
  ·obtain ⟨o',e1⟩:=I.base.there b o e hx
   exact ⟨o',(hs.2 b (Nat.ne_of_lt (Nat.lt_of_lt_of_le (Heap.lt_size e) (I.ok.cab x c hfn hc)))).trans e1⟩
  ·by_cases hj:j=i
   ·subst hj
    rw [hi] at e1; cases e1
    rw [List.getElem?_set_self hiσ] at e2
    cases e2
    exact ⟨u,r,.inr ⟨.inl hk,c,hc,hc'⟩⟩
   ·rw [List.getElem?_set_ne (Ne.symm hj)] at e2
    obtain ⟨u',r',q⟩:=hl j y v' e1 e2 e3
    refine ⟨u',r',?_⟩
    rcases q with q | ⟨k,c',e,z'⟩
    ·exact .inl q
    ·refine .inr ⟨k,c',e,z'.sameBut hs ?_⟩
     rintro rfl
     exact hj (yR hN e1 (I.ok.inj _ _ _ e hc ▸ hi))
  ·by_cases hcc:c'=c
   ·subst hcc; exact ⟨_,hc'⟩
   ·obtain ⟨w2,z2⟩:=I.cell y c' e
    exact ⟨w2,z2.sameBut hs hcc⟩
  ·obtain ⟨e,n,ne,nf,d⟩:=I.pin p hp
   refine ⟨(hs.2 p.1 ?_).trans e,n,ne,nf,d⟩
   intro q
   rw [q,hoc] at e
   have q':oc=p.2:=Option.some.inj e
   exact d w' (by rw [← q']; exact hocd)
theorem uo {M:Model} {A:Around} {E:Value→Shared→Prop} {i:Nat} {x:Str} {v:V} {u:Value} {Q:Unit→Shared→Prop} (I:Inv X pins σ H s) (hN:X.N.Nodup) (hi:X.N[i]?=some x) (hx:Loc X.env.scope x) (r:RelV v u)
  (h : ∀ s',Inv X pins (σ.set i (some v)) H s'→Q () s') (hf:X.fn x=true∨X.env.scope.names.lookup x=some .local:=by first | exact .inl rfl | exact .inr rfl | assumption):wpAny M A (storeName X.env x u) Q E s :=
 vg I hN hi hx r (fun s' I' _=>h s' I') hf
theorem Inv.call' {s':Shared} {ch:List Addr} (I:Inv X pins σ H s) (ho:s'.os=s.os) (u:Un (frs X.stack) ch H H' s.heap s'.heap) (hok:HOk X.prog X.w H' s'.heap) (hg:AllBare s'.gens)
  (hch : ∀ b∈ch,(b∈X.ex∨X.s₀.heap.objs.size≤b)∧b ≠ X.env.locals∧(∀ x c,X.env.cells.lookup x=some c→c ≠ b) ∧ ∀ p∈X.pn ++ pins,p.1 ≠ b):Inv X pins σ H' s':=by
 obtain ⟨h',g',d',t',o'⟩:=s'
 have e:o'=s.os:=ho
 subst e
 exact I.call (g':=g') (t':=t') (d':=d') u hok hg hch
end
abbrev XK:=Value→Option Addr→Hp→Prop
abbrev St:=List (Option V)
abbrev VK:=V→Hp→Prop
abbrev TE:=St→Hp→VK→Prop
abbrev TT:=St→Hp→(Bool→Hp→Prop)→Prop
abbrev TA:=St→Hp→(List V→Hp→Prop)→Prop
structure Ends where
 nx:St→Hp→Prop
 rt:VK
 bk:St→Hp→Prop:=fun _ _=>False
 ct:St→Hp→Prop:=fun _ _=>False
abbrev TS:=Ends→St→Hp→Prop
def EP (X:Cx) (pins:List (Addr × Obj)) (σ:St) (Q:VK) (u:Value) (s':Shared):Prop := ∃ v H',Inv X pins σ H' s'∧RelV v u∧Q v H'
def TP (X:Cx) (pins:List (Addr × Obj)) (σ:St) (Q:Bool→Hp→Prop) (b:Bool) (s':Shared):Prop := ∃ H',Inv X pins σ H' s'∧Q b H'
def AP (X:Cx) (pins:List (Addr × Obj)) (σ:St) (Q:List V→Hp→Prop) (us:List Value) (s':Shared):Prop := ∃ vs H',Inv X pins σ H' s'∧Vals vs us∧Q vs H'
def SP (X:Cx) (pins:List (Addr × Obj)) (D:Ends) (f:Flow) (s':Shared):Prop :=
 match f with
 | .next => ∃ σ' H',Inv X pins σ' H' s'∧D.nx σ' H'
 | .brk => ∃ σ' H',Inv X pins σ' H' s'∧D.bk σ' H'
 | .cont => ∃ σ' H',Inv X pins σ' H' s'∧D.ct σ' H'
 | .ret u => ∃ v σ' H',Inv X pins σ' H' s'∧RelV v u∧D.rt v H'
def PE (X:Cx) (e:Expr) (t:TE):Prop :=
 ∀ (pins:List (Addr × Obj)) (s:Shared) (σ:St) (H:Hp) (Q:VK),Inv X pins σ H s→t σ H Q→wpAny (model X.prog X.w) X.A (eval e X.env) (EP X pins σ Q) X.xe s
def PT (X:Cx) (e:Expr) (t:TT):Prop :=
 ∀ (pins:List (Addr × Obj)) (s:Shared) (σ:St) (H:Hp) (Q:Bool→Hp→Prop),Inv X pins σ H s→t σ H Q→wpAny (model X.prog X.w) X.A (isTrue e X.env (eval e X.env)) (TP X pins σ Q) X.xe s
def PW (X:Cx) (e:Expr) (t:TT):Prop :=
 ∀ (whole:Sem Value) (pins:List (Addr × Obj)) (s:Shared) (σ:St) (H:Hp) (Q:Bool→Hp→Prop),Inv X pins σ H s→t σ H Q→wpAny (model X.prog X.w) X.A (isTrue e X.env whole) (TP X pins σ Q) X.xe s
theorem PW.pt {X:Cx} {e:Expr} {t:TT} (h:PW X e t):PT X e t:=h _
def PA (X:Cx) (es:List Expr) (t:TA):Prop :=
 ∀ (pos:Pos) (pins:List (Addr × Obj)) (s:Shared) (σ:St) (H:Hp) (Q:List V→Hp→Prop),Inv X pins σ H s→t σ H Q→wpAny (model X.prog X.w) X.A (spliced (backTo pos (starEach es X.env))) (AP X pins σ Q) X.xe s
def PS (X:Cx) (st:Stmt) (t:TS):Prop :=
 ∀ (pins:List (Addr × Obj)) (s:Shared) (σ:St) (H:Hp) (D:Ends),Inv X pins σ H s→t D σ H→wpAny (model X.prog X.w) X.A (exec st X.env) (SP X pins D) X.xe s
def PSs (X:Cx) (st:List Stmt) (t:TS):Prop :=
 ∀ (pins:List (Addr × Obj)) (s:Shared) (σ:St) (H:Hp) (D:Ends),Inv X pins σ H s→t D σ H→wpAny (model X.prog X.w) X.A (execs st X.env) (SP X pins D) X.xe s
theorem thn {α:Type} {t:Sem α} {Q Q':α→Shared→Prop} {M:Model} {A:Around} {E:Value→Shared→Prop} {s:Shared} (h:wpAny M A t Q E s) (hQ : ∀ a s,Q a s→Q' a s):wpAny M A t Q' E s:=wpAny_mono h hQ fun _ _ x=>x
end L2
namespace L2
open PySem PySem.Spec PyProof.Rows
section
variable {X:Cx}
theorem bin {a b:Expr} {ta tb:TE} (ha:PE X a ta) (hb:PE X b tb) {pins:List (Addr × Obj)} {s:Shared} {σ:St} {H:Hp} {R:V→V→Hp→Prop} (I:Inv X pins σ H s) (h:ta σ H fun x H1=>tb σ H1 fun y H2=>R x y H2)
  {α:Type} {Q:α→Shared→Prop} {f:Value→Value→Sem α}
  (hf : ∀ v u s2 x y H2,Inv X pins σ H2 s2→RelV x v→RelV y u→R x y H2→wpAny (model X.prog X.w) X.A (f v u) Q X.xe s2) :
  wpAny (model X.prog X.w) X.A (eval a X.env) (fun v s₁=>wpAny (model X.prog X.w) X.A (eval b X.env) (fun u s₂=>wpAny (model X.prog X.w) X.A (f v u) Q X.xe s₂) X.xe s₁) X.xe s:=by
 refine thn (ha pins s σ H _ I h) fun v s1 ⟨x,H1,I1,r1,q1⟩=>?_
 refine thn (hb pins s1 σ H1 _ I1 q1) fun u s2 ⟨y,H2,I2,r2,q2⟩=>?_
 exact hf v u s2 x y H2 I2 r1 r2 q2
def Im (i:Nat):TE:=fun σ H Q => ∃ v,σ[i]?=some (some v)∧Q v H
def tC (v:V):TE:=fun _ H Q=>Q v H
theorem wI {i:Nat} {x:Str} {pos:Pos} (hN:X.N[i]?=some x) (hv:Vis X.env.scope x) (hd:(x == ("__debug__" : Str))=false:=by decide) (hcd:(x == ("__classdict__" : Str))=false:=by decide):PE X (.Name x pos) (Im i):=by
 intro pins s σ H Q I h
 obtain ⟨v,e,h⟩:=h
 obtain ⟨m,hn,hl⟩:=I.loc
 obtain ⟨u,r,l⟩:=hl i x v hN e hv
 have fin:EP X pins σ Q u s:=⟨v,H,I,r,h⟩
 rcases l with ⟨hk,hm⟩ | ⟨hk,c,hc,hcell⟩
 ·exact wpAny_Name (wpAny_loadName_local I.ok.kind hk hn hm fin) hd
 ·rcases hk with hk | hk
  ·exact wpAny_Name (wpAny_loadName_cell I.ok.kind hk hc hcell fin) hd
  ·exact wpAny_Name (wpAny_loadName_free I.ok.kind hk hc hcell fin hcd) hd
theorem au {i j pos}:PE X (.Constant (.int i) j pos) (tC (.int i)):=fun _ _ _ H _ I h=>wpAny_Constant_int ⟨.int i,H,I.tok _,⟨_,rfl⟩,h⟩
theorem vh {b j pos}:PE X (.Constant (.bool b) j pos) (tC (.bl b)):=fun _ _ _ H _ I h=>Constant_bool ⟨.bl b,H,I,rfl,h⟩
theorem cG {j pos}:PE X (.Constant .none j pos) (tC .non):=fun _ _ _ H _ I h=>Constant_none ⟨.non,H,I,rfl,h⟩
theorem HW {x j pos}:PE X (.Constant (.str x) j pos) (tC (.str x)):=fun _ _ _ H _ I h=>Calls.Constant_str ⟨.str x,H,I.tok _,⟨_,rfl⟩,h⟩
def Gl (X:Cx) (x:Str):Prop:=X.env.kindOf x=some .globalImplicit
theorem qW {E:Value→Shared→Prop} {pins:List (Addr × Obj)} {s:Shared} {σ:St} {H:Hp} {x:Str} {u:Value} {pos:Pos} {Q:Value→Shared→Prop} (I:Inv X pins σ H s) (hg:Gl X x) (hm:X.mg x=some u) (h:Q u s)
  (hd:(x == ("__debug__" : Str))=false:=by decide):wpAny (model X.prog X.w) X.A (eval (.Name x pos) X.env) Q E s :=
 Calls.Name_function_global I.ok.kind hg (Calls.loadGlobal_global (by rw [I.ok.glob]; exact I.mod.glob.keeps I.bk) hm h) hd
theorem eO {E:Value→Shared→Prop} {pins:List (Addr × Obj)} {s:Shared} {σ:St} {H:Hp} {x:Str} {u:Value} {pos:Pos} {Q:Value→Shared→Prop} (I:Inv X pins σ H s) (hg:Gl X x) (hm:X.mg x=none) (hv:bootBuiltins x=some u) (h:Q u s)
  (hn:x ≠ "__name__" := by decide) (hd:(x == ("__debug__" : Str))=false:=by decide):wpAny (model X.prog X.w) X.A (eval (.Name x pos) X.env) Q E s:=by
 obtain ⟨mb,h1,h2⟩:=I.mod.blt
 exact Calls.Name_function_global I.ok.kind hg (Calls.loadGlobal_builtin (by rw [I.ok.glob]; exact I.mod.glob.keeps I.bk) hm (by rw [I.ok.blt]; exact h1.keeps I.bk) ((h2 x hn).trans hv) h) hd
theorem bh {x:Str} {v:V} {u:Value} {pos:Pos} (hg:Gl X x) (hm:X.mg x=some u) (r:RelV v u) (hd:(x == ("__debug__" : Str))=false:=by decide):PE X (.Name x pos) (tC v) :=
 fun _ _ _ H _ I h=>qW I hg hm ⟨v,H,I,r,h⟩ hd
theorem wK {x:Str} {v:V} {u:Value} {pos:Pos} (hg:Gl X x) (hm:X.mg x=none) (hv:bootBuiltins x=some u) (r:RelV v u) (hn:x ≠ "__name__" := by decide) (hd:(x == ("__debug__" : Str))=false:=by decide):PE X (.Name x pos) (tC v) :=
 fun _ _ _ H _ I h=>eO I hg hm hv ⟨v,H,I,r,h⟩ hn hd
variable {a b:Expr} {ta tb:TE} {pos:Pos}
def PC (X:Cx) (op:CmpOp) (a b:Expr) (t:TE):Prop :=
 ∀ (pins:List (Addr × Obj)) (s:Shared) (σ:St) (H:Hp) (Q:VK),Inv X pins σ H s→t σ H Q →
  wpAny (model X.prog X.w) X.A (eval a X.env) (fun v s₁=>wpAny (model X.prog X.w) X.A (eval b X.env) (fun u s₂=>wpAny (model X.prog X.w) X.A (compareOp op v u) (EP X pins σ Q) X.xe s₂) X.xe s₁) X.xe s
theorem ye (b:Expr) {op:CmpOp} (h:op ≠ .In) (h2:op ≠ .NotIn):behindInMarks op b=false:=by
 have e1:(op == CmpOp.In)=false:=by cases op <;> first | rfl | exact absurd rfl h
 have e2:(op == CmpOp.NotIn)=false:=by cases op <;> first | rfl | exact absurd rfl h2
 cases b <;> simp [behindInMarks,e1,e2]
def Ke (ta:TE):TE:=fun σ H Q=>ta σ H fun x H1=>Q (.bl (decide (x=.non))) H1
def JT (ta:TE):TE:=fun σ H Q=>ta σ H fun x H1=>Q (.bl (!decide (x=.non))) H1
theorem RelV.none_iff {x:V} {v:Value} (r:RelV x v):(v == Value.none)=decide (x=.non):=by
 cases x with
 | non=>cases r; rfl
 | bl _=>cases r; rfl
 | int _=>obtain ⟨t,rfl⟩:=r; rfl
 | str _=>obtain ⟨t,rfl⟩:=r; rfl
 | byt _=>obtain ⟨t,rfl⟩:=r; rfl
 | flt _=>obtain ⟨t,rfl⟩:=r; rfl
 | ref _=>cases r; rfl
 | ty _=>cases r; rfl
theorem jG {j pos'} (ha:PE X a ta):PC X .Is a (.Constant .none j pos') (Ke ta):=by
 intro pins s σ H Q I h
 refine thn (ha pins s σ H _ I h) fun v s1 ⟨x,H1,I1,r1,q1⟩=>?_
 exact Constant_none (is_none_gen ⟨.bl _,H1,I1,by rw [r1.none_iff]; rfl,q1⟩)
theorem vX {j pos'} (ha:PE X a ta):PC X .IsNot a (.Constant .none j pos') (JT ta):=by
 intro pins s σ H Q I h
 refine thn (ha pins s σ H _ I h) fun v s1 ⟨x,H1,I1,r1,q1⟩=>?_
 exact Constant_none (isnot_none_gen ⟨.bl _,H1,I1,by rw [r1.none_iff]; rfl,q1⟩)
def tB (t:TE):TT:=fun σ H Q=>t σ H fun x H1 => ∃ c,x=.bl c∧Q c H1
theorem HS {op:CmpOp} {t:TE} (h:PC X op a b t) (h1:behindInMarks op b=false:=by first | exact ye _ (by decide) (by decide) | rfl):PE X (.Compare a [op] [b] pos) t:=fun pins s σ H Q I hw=>wpAny_Compare1 (h pins s σ H Q I hw) h1
theorem gP {op:CmpOp} {t:TE} (h:PC X op a b t) (h1:behindInMarks op b=false:=by first | exact ye _ (by decide) (by decide) | rfl):PT X (.Compare a [op] [b] pos) (tB t):=by
 intro pins s σ H Q I hw
 refine wpAny_isTrue_Compare1 (thn (h pins s σ H _ I hw) fun v s1 h1=>thn h1 fun u s2 h2=>thn h2 fun c s3 ⟨x,H1,I1,r1,q1⟩=>?_) h1
 obtain ⟨d,rfl,q⟩:=q1
 cases r1
 exact wpAny_truthy_bool ⟨H1,I1,q⟩
theorem rJ {e:Expr} {t:TE} (h:PE X e t) (he : ∀ whole,isTrue e X.env whole=(do let v ← whole; standAt e.pos; holding [v] (truthy v)):=by intro _; rfl):PT X e (tB t):=by
 intro pins s σ H Q I hw
 refine isTrue_plain (thn (h pins s σ H _ I hw) fun v s1 ⟨x,H1,I1,r1,q1⟩=>?_) (he _)
 obtain ⟨d,rfl,q⟩:=q1
 cases r1
 exact wpAny_truthy_bool ⟨H1,I1,q⟩
variable {tA tB':TT} {rest:List Expr}
def Kl (t u:TT):TT:=fun σ H Q=>t σ H fun c H1=>if c=true then u σ H1 Q else Q false H1
def tOr (t u:TT):TT:=fun σ H Q=>t σ H fun c H1=>if c=true then Q true H1 else u σ H1 Q
def J2 (t:TT):TT:=fun σ H Q=>t σ H fun c H1=>Q (!c) H1
theorem gY (ha:PT X a tA):PW X (.BoolOp .And [a] pos) tA:=by
 intro wh pins s σ H Q I h
 refine isTrue_and (thn (ha pins s σ H Q I h) fun c s1 e=>?_)
 cases c with
 | true=>exact isTrue_and_nil e
 | false=>exact e
theorem jX (ha:PT X a tA):PW X (.BoolOp .Or [a] pos) tA:=by
 intro wh pins s σ H Q I h
 refine isTrue_or (thn (ha pins s σ H Q I h) fun c s1 e=>?_)
 cases c with
 | false=>exact isTrue_or_nil e
 | true=>exact e
theorem ju (ha:PT X a tA) (hb:PW X (.BoolOp .And (b :: rest) pos) tB'):PW X (.BoolOp .And (a :: b :: rest) pos) (Kl tA tB'):=by
 intro wh pins s σ H Q I h
 refine isTrue_and (thn (ha pins s σ H _ I h) fun c s1 ⟨H1,I1,q1⟩=>?_)
 cases c with
 | true=>exact hb wh pins s1 σ H1 Q I1 q1
 | false=>exact ⟨H1,I1,q1⟩
theorem oH (ha:PT X a tA) (hb:PW X (.BoolOp .Or (b :: rest) pos) tB'):PW X (.BoolOp .Or (a :: b :: rest) pos) (tOr tA tB'):=by
 intro wh pins s σ H Q I h
 refine isTrue_or (thn (ha pins s σ H _ I h) fun c s1 ⟨H1,I1,q1⟩=>?_)
 cases c with
 | true=>exact ⟨H1,I1,q1⟩
 | false=>exact hb wh pins s1 σ H1 Q I1 q1
theorem j6 (ha:PT X a tA):PT X (.UnaryOp .Not a pos) (J2 tA):=by
 intro pins s σ H Q I h
 exact isTrue_not (ha pins s σ H (fun c H1=>Q (!c) H1) I h)
def Jo (ta tb:TE):TE:=fun σ H Q=>ta σ H fun x H1 => ∃ c,x=.bl c∧if c=true then tb σ H1 Q else Q (.bl false) H1
def JN (ta:TE):TE:=fun σ H Q=>ta σ H fun x H1 => ∃ c,x=.bl c∧Q (.bl (!c)) H1
theorem pO {op} {t:TE} (h:PE X a t):PE X (.BoolOp op [a] pos) t:=fun pins s σ H Q I hw=>BoolOp_one (h pins s σ H Q I hw)
theorem oV (ha:PE X a ta) (hb:PE X (.BoolOp .And (b :: rest) pos) tb):PE X (.BoolOp .And (a :: b :: rest) pos) (Jo ta tb):=by
 intro pins s σ H Q I h
 refine BoolOp_and (thn (ha pins s σ H _ I h) fun v s1 ⟨x,H1,I1,r1,q1⟩=>?_)
 obtain ⟨c,rfl,q1⟩:=q1
 cases r1
 refine wpAny_truthy_bool ?_
 cases c with
 | true=>exact hb pins s1 σ H1 Q I1 q1
 | false=>exact ⟨.bl false,H1,I1,rfl,q1⟩
theorem Ie (ha:PE X a ta):PE X (.UnaryOp .Not a pos) (JN ta):=by
 intro pins s σ H Q I h
 refine UnaryOp_ (thn (ha pins s σ H _ I h) fun v s1 ⟨x,H1,I1,r1,q1⟩=>?_)
 obtain ⟨c,rfl,q1⟩:=q1
 cases r1
 exact not_of (wpAny_truthy_bool ⟨.bl (!c),H1,I1,rfl,q1⟩)
end
end L2
namespace L2
open PySem PySem.Spec PyProof.Rows
def SqL (K:PySem.W.Frag) (H:Hp) (a:Addr) (xs:List V):Prop :=
 Rd H a (.lst xs) ∨
  ∃ (o:Obj) (its:Array Value) (n:Nat),K.lookup a=some o∧o.cls=.type "list" ∧ o.dict=none∧o.data=.seq its n∧its.size≤sizeLine∧Vals xs its.toList
def SqT (K:PySem.W.Frag) (H:Hp) (a:Addr) (xs:List V):Prop :=
 Rd H a (.tup xs) ∨
  ∃ (o:Obj) (its:Array Value) (n:Nat),K.lookup a=some o∧o.cls=.type "tuple" ∧ o.data=.seq its n∧its.size≤sizeLine∧Vals xs its.toList
def J1:Value→Option V
 | .none=>some .non
 | .bool b=>some (.bl b)
 | .int i _=>some (.int i)
 | .str x _=>some (.str x)
 | .bytes b _=>some (.byt b)
 | .float b _=>some (.flt b)
 | .ref a=>some (.ref a)
 | .type n=>some (.ty n)
 | _=>none
theorem RelV.abs {x:V} {u:Value} (r:RelV x u):J1 u=some x:=by
 cases x with
 | non=>cases r; rfl
 | bl _=>cases r; rfl
 | int _=>obtain ⟨t,rfl⟩:=r; rfl
 | str _=>obtain ⟨t,rfl⟩:=r; rfl
 | byt _=>obtain ⟨t,rfl⟩:=r; rfl
 | flt _=>obtain ⟨t,rfl⟩:=r; rfl
 | ref _=>cases r; rfl
 | ty _=>cases r; rfl
theorem RelV.inj {x y:V} {u:Value} (r:RelV x u) (q:RelV y u):x=y:=Option.some.inj (r.abs.symm.trans q.abs)
theorem Vals.inj : ∀ {xs ys:List V} {us:List Value},Vals xs us→Vals ys us→xs=ys
 | _,_,_,.nil,.nil=>rfl
 | _,_,_,.cons r t,.cons r' t'=>by rw [r.inj r',Vals.inj t t']
section
variable {X:Cx} {pins:List (Addr × Obj)} {σ:St} {H:Hp} {s:Shared} {a:Addr} {xs ys:List V}
theorem SqL.of {K:PySem.W.Frag} (h:H a=some (.lst xs)):SqL K H a xs:=.inl (.inl h)
theorem SqT.of {K:PySem.W.Frag} (h:H a=some (.tup xs)):SqT K H a xs:=.inl (.inl h)
theorem Inv.list (I:Inv X pins σ H s) (h:SqL X.K H a xs) : ∃ its:List Value,Vals xs its∧PlainL s.heap a its.toArray∧xs.length≤sizeLine:=by
 rcases h with h | ⟨o,its,n,hk,hc,hd,hs,hz,r⟩
 ·obtain ⟨z,its,n,r,e⟩:=h.ok I.hok
  exact ⟨its,r,⟨_,n,e,rfl,rfl,rfl⟩,z⟩
 ·refine ⟨its.toList,r,⟨o,n,I.kIn a o hk,hc,hd,by simpa using hs⟩,?_⟩
  have e:=r.length
  simp only [Array.length_toList] at e
  omega
theorem Inv.tuple (I:Inv X pins σ H s) (h:SqT X.K H a xs) : ∃ its:List Value,Vals xs its∧IsTup s.heap a its.toArray∧xs.length≤sizeLine:=by
 rcases h with h | ⟨o,its,n,hk,hc,hs,hz,r⟩
 ·obtain ⟨z,its,r,p⟩:=h.ok I.hok
  exact ⟨its,r,p,z⟩
 ·refine ⟨its.toList,r,⟨o,I.kIn a o hk,hc,n,by simpa using hs⟩,?_⟩
  have e:=r.length
  simp only [Array.length_toList] at e
  omega
theorem Inv.list_inj (I:Inv X pins σ H s) (h:SqL X.K H a xs) (h':SqL X.K H a ys):xs=ys:=by
 obtain ⟨its,r,⟨o,n,e,_,_,d⟩,_⟩:=I.list h
 obtain ⟨its',r',⟨o',n',e',_,_,d'⟩,_⟩:=I.list h'
 rw [e] at e'; cases e'
 rw [d] at d'
 injection d' with d1 _
 have:its=its':=by simpa using congrArg Array.toList d1
 subst this
 exact r.inj r'
theorem Inv.tuple_inj (I:Inv X pins σ H s) (h:SqT X.K H a xs) (h':SqT X.K H a ys):xs=ys:=by
 obtain ⟨its,r,⟨o,e,_,n,d⟩,_⟩:=I.tuple h
 obtain ⟨its',r',⟨o',e',_,n',d'⟩,_⟩:=I.tuple h'
 rw [e] at e'; cases e'
 rw [d] at d'
 injection d' with d1 _
 have:its=its':=by simpa using congrArg Array.toList d1
 subst this
 exact r.inj r'
end
abbrev Cx.wish (X:Cx) (E:Value→Shared→Prop):Cx:={ X with xe:=E }
abbrev Cx.nox (X:Cx):Cx:=X.wish fun _ _=>False
theorem Cx.Ok.wish {X:Cx} (ok:X.Ok) (E:Value→Shared→Prop):(X.wish E).Ok :=
 ⟨ok.mod,ok.kind,ok.glob,ok.blt,ok.above,ok.inj,ok.has,ok.cab,ok.hd,ok.frames,ok.stk,ok.exf,ok.bs,ok.bsz,ok.noex,ok.exfs,ok.funs,ok.frf⟩
theorem Cx.Ok.unwish {X:Cx} {E:Value→Shared→Prop} (ok:(X.wish E).Ok):X.Ok :=
 ⟨ok.mod,ok.kind,ok.glob,ok.blt,ok.above,ok.inj,ok.has,ok.cab,ok.hd,ok.frames,ok.stk,ok.exf,ok.bs,ok.bsz,ok.noex,ok.exfs,ok.funs,ok.frf⟩
section
variable {X:Cx} {pins:List (Addr × Obj)} {σ:St} {H:Hp} {s:Shared} {E:Value→Shared→Prop}
theorem Inv.wish (I:Inv X pins σ H s) (E:Value→Shared→Prop):Inv (X.wish E) pins σ H s:=⟨I.ok.wish E,I.os,I.bare,I.base,I.loc,I.cell,I.free,I.freeC,I.pin,I.hok,I.len⟩
theorem Inv.unwish (I:Inv (X.wish E) pins σ H s):Inv X pins σ H s:=⟨I.ok.unwish,I.os,I.bare,I.base,I.loc,I.cell,I.free,I.freeC,I.pin,I.hok,I.len⟩
theorem SP.unwish {D:Ends} {f:Flow} {s':Shared} (h:SP (X.wish E) pins D f s'):SP X pins D f s':=by
 cases f with
 | next=>obtain ⟨σ',H',I,q⟩:=h; exact ⟨σ',H',I.unwish,q⟩
 | brk=>obtain ⟨σ',H',I,q⟩:=h; exact ⟨σ',H',I.unwish,q⟩
 | cont=>obtain ⟨σ',H',I,q⟩:=h; exact ⟨σ',H',I.unwish,q⟩
 | ret u=>obtain ⟨v,σ',H',I,r,q⟩:=h; exact ⟨v,σ',H',I.unwish,r,q⟩
theorem PSs.nox {st:List Stmt} {t:TS} (h:PSs X.nox st t):PSs X st t:=fun pins s σ H D I hw =>
 wpAny_mono (h pins s σ H D (I.wish _) hw) (fun _ _ q=>q.unwish) fun _ _ z=>False.elim z
end
section
variable {X:Cx} {st:Stmt} {rest:List Stmt} {t u:TS} {e:Expr} {te:TE} {pos:Pos}
def FJ:TS:=fun D σ H=>D.nx σ H
def Kg (t u:TS):TS:=fun D σ H=>t { D with nx:=u D } σ H
theorem aL:PSs X [] FJ:=fun _ _ σ H _ I h=>wpAny_execs_nil ⟨σ,H,I,h⟩
theorem aj (h1:PS X st t) (h2:PSs X rest u):PSs X (st :: rest) (Kg t u):=by
 intro pins s σ H D I h
 refine wpAny_execs_cons (thn (h1 pins s σ H { D with nx:=u D } I h) fun f s1 q=>?_)
 cases f with
 | next =>
  obtain ⟨σ',H',I',q⟩:=q
  exact h2 pins s1 σ' H' D I' q
 | ret v=>exact q
 | brk=>exact q
 | cont=>exact q
theorem aq (h1:PS X st t):PSs X [st] t:=by
 intro pins s σ H D I h
 refine wpAny_execs_cons (thn (h1 pins s σ H D I h) fun f s1 q=>?_)
 cases f with
 | next=>exact wpAny_execs_nil q
 | ret v=>exact q
 | brk=>exact q
 | cont=>exact q
theorem Inv.quiet {pins:List (Addr × Obj)} {σ:St} {H:Hp} {s:Shared} (I:Inv X pins σ H s):interactive X.env=false:=by simp [interactive,I.ok.kind]
def Jw (te:TE):TS:=fun D σ H=>te σ H fun _ H1=>D.nx σ H1
theorem bc (he:PE X e te) (hs:swapsWith e none pos.line X.env=pure false:=by rfl):PS X (.Expr e pos) (Jw te):=by
 intro pins s σ H D I h
 exact wpAny_Expr_any (thn (he pins s σ H _ I h) fun v s1 ⟨x,H1,I1,r1,q1⟩=>⟨σ,H1,I1,q1⟩) I.quiet hs
def Kp (te:TE):TS:=fun D σ H=>te σ H D.rt
theorem aB (he:PE X e te):PS X (.Return (some e) pos) (Kp te):=by
 intro pins s σ H D I h
 exact wpAny_Return_some (thn (he pins s σ H _ I h) fun v s1 ⟨x,H1,I1,r1,q1⟩=>⟨x,σ,H1,I1,r1,q1⟩)
def J8 (c:TT) (t u:TS):TS:=fun D σ H=>c σ H fun b H1=>if b=true then t D σ H1 else u D σ H1
theorem aW {c:Expr} {a b:List Stmt} {tc:TT} (hc:PT X c tc) (ha:PSs X a t) (hb:PSs X b u):PS X (.If c a b pos) (J8 tc t u):=by
 intro pins s σ H D I h
 refine wpAny_If (thn (hc pins s σ H _ I h) fun d s1 ⟨H1,I1,q1⟩=>?_)
 cases d with
 | true=>exact ha pins s1 σ H1 D I1 q1
 | false=>exact hb pins s1 σ H1 D I1 q1
def Ja:TS:=fun _ _ _=>False
theorem bU:PS X st Ja:=fun _ _ _ _ _ _ h=>h.elim
end
abbrev TG:=V→St→Hp→(St→Hp→Prop)→Prop
abbrev TGs:=List V→St→Hp→(St→Hp→Prop)→Prop
def PG (X:Cx) (target:Expr) (t:TG):Prop :=
 ∀ (pins:List (Addr × Obj)) (s:Shared) (σ:St) (H:Hp) (v:V) (u:Value) (Q:St→Hp→Prop),Inv X pins σ H s→RelV v u→t v σ H Q →
  wpAny (model X.prog X.w) X.A (assign target X.env u) (fun _ s' => ∃ σ' H',Inv X pins σ' H' s'∧Q σ' H') X.xe s
def PGs (X:Cx) (ts:List Expr) (t:TGs):Prop :=
 ∀ (pins:List (Addr × Obj)) (s:Shared) (σ:St) (H:Hp) (vs:List V) (us:List Value) (Q:St→Hp→Prop),Inv X pins σ H s→Vals vs us→t vs σ H Q →
  wpAny (model X.prog X.w) X.A (assignInOrder ((assignEach ts X.env).map (·.2)) us) (fun _ s' => ∃ σ' H',Inv X pins σ' H' s'∧Q σ' H') X.xe s
abbrev Hx:=V→V→V→Hp→(Hp→Prop)→Prop
def Jr (X:Cx) (t:Hx):Prop :=
 ∀ (pins:List (Addr × Obj)) (s:Shared) (σ:St) (H:Hp) (o i v:V) (ov iv u:Value) (Q:Hp→Prop),Inv X pins σ H s→RelV o ov→RelV i iv→RelV v u→t o i v H Q →
  wpAny (model X.prog X.w) X.A (setItem ov iv u) (fun _ s' => ∃ H',Inv X pins σ H' s'∧Q H') X.xe s
section
variable {X:Cx} {pos:Pos}
def vq (i:Nat):TG:=fun v σ H Q=>Q (σ.set i (some v)) H
theorem aV {i:Nat} {x:Str} (hN:X.N.Nodup) (hi:X.N[i]?=some x) (hx:Loc X.env.scope x) (hf:X.fn x=true∨X.env.scope.names.lookup x=some .local:=by first | exact .inl rfl | exact .inr rfl | assumption):PG X (.Name x pos) (vq i):=by
 intro pins s σ H v u Q I r h
 exact wpAny_assign_Name (uo I hN hi hx r (fun s' I'=>⟨_,H,I',h⟩) hf)
def Jl:TGs:=fun vs σ H Q=>vs=[]∧Q σ H
def Fi (t:TG) (u:TGs):TGs:=fun vs σ H Q => ∃ v r,vs=v :: r∧t v σ H fun σ' H'=>u r σ' H' Q
theorem fG:PGs X [] Jl:=by
 intro pins s σ H vs us Q I r h
 obtain ⟨e,h⟩:=h
 subst e
 cases r
 exact assignInOrder_nil ⟨σ,H,I,h⟩
theorem bw {e:Expr} {es:List Expr} {t:TG} {u:TGs} (h1:PG X e t) (h2:PGs X es u)
  (hs:(assignEach (e :: es) X.env).map (·.2)=assign e X.env :: (assignEach es X.env).map (·.2):=by rfl):PGs X (e :: es) (Fi t u):=by
 intro pins s σ H vs us Q I r h
 obtain ⟨v,vr,e1,h⟩:=h
 subst e1
 cases r with
 | cons r rr =>
  rw [hs]
  refine assignInOrder_cons (thn (h1 pins s σ H _ _ _ I r h) fun _ s1 ⟨σ1,H1,I1,q1⟩=>?_)
  exact h2 pins s1 σ1 H1 _ _ Q I1 rr q1
def JR (K:PySem.W.Frag) (n:Nat) (t:TGs):TG:=fun v σ H Q => ∃ a xs,v=.ref a∧SqT K H a xs∧xs.length=n∧t xs σ H Q
theorem ik {es:List Expr} {k:Nat} {t:TGs} {n:Nat} (hc:X.calm=true) (h:PGs X es t)
  (hn:(assignEach es X.env).length=n:=by rfl) (hst:(assignEach es X.env).findIdx? (·.1)=none:=by rfl):PG X (.Tuple es k pos) (JR X.K n t):=by
 intro pins s σ H v u Q I r hw
 obtain ⟨a,xs,e1,hq,hl,hw⟩:=hw
 subst e1
 cases r
 obtain ⟨its,rv,ht,hz⟩:=I.tuple hq
 refine assign_Tuple_tuple (I.ok.hd hc) ht (by simp [hn,← hl,rv.length]) hst fun h' hx=>?_
 have I1:Inv X pins σ H { s with heap:=h' }:=I.kept (t':=s.toks) fun b o e=>hx b o (Nat.ne_of_lt (Heap.lt_size e)) e
 exact h pins _ σ H xs _ Q I1 (by simpa using rv) hw
def JZ (to ti:TE) (t:Hx):TG:=fun v σ H Q=>to σ H fun o H1=>ti σ H1 fun i H2=>t o i v H2 fun H3=>Q σ H3
theorem zE {o i:Expr} {to ti:TE} {t:Hx} (ho:PE X o to) (hi:PE X i ti) (hs:Jr X t)
  (ha : ∀ v,assign (.Subscript o i pos) X.env v=(do
   let ov ← holding [v] (eval o X.env)
   let iv ← holding [v,ov] (eval i X.env)
   standAt pos
   holding [v,ov,iv] (setItem ov iv v)
   release [v,ov,iv] []):=by intro _; rfl):PG X (.Subscript o i pos) (JZ to ti t):=by
 intro pins s σ H v u Q I r h
 rw [ha]
 refine wpAny_bind (wpAny_holding (thn (ho pins s σ H _ I h) fun ov s1 ⟨x,H1,I1,r1,q1⟩=>?_))
 refine wpAny_bind (wpAny_holding (thn (hi pins s1 σ H1 _ I1 q1) fun iv s2 ⟨y,H2,I2,r2,q2⟩=>?_))
 refine wpAny_bind (wpAny_standAt (wpAny_bind (wpAny_holding (thn (hs pins s2 σ H2 x y v ov iv u _ I2 r1 r2 r q2) fun _ s3 ⟨H3,I3,q3⟩=>?_))))
 exact wpAny_release ⟨σ,H3,I3,q3⟩
def Hw (te:TE) (g:TG):TS:=fun D σ H=>te σ H fun x H1=>g x σ H1 D.nx
theorem mq {tg e:Expr} {te:TE} {g:TG} (he:PE X e te) (hg:PG X tg g) (hs:swapsWithSole [tg] e pos.line X.env=pure false:=by rfl) (hw:swappedStores [tg] e X.env=pure none:=by rfl)
  (h1:(assignEach [tg] X.env).map (·.2)=[assign tg X.env]:=by rfl):PS X (.Assign [tg] e pos) (Hw te g):=by
 intro pins s σ H D I h
 refine wpAny_Assign_stores (thn (he pins s σ H _ I h) fun v s1 ⟨x,H1,I1,r1,q1⟩=>?_) hs hw
 rw [h1]
 exact thn (hg pins s1 σ H1 x v _ I1 r1 q1) fun _ s2 q=>q
theorem aG {i:Nat} {x:Str} {e:Expr} {te:TE} {pos':Pos} (hN:X.N.Nodup) (hi:X.N[i]?=some x) (hx:Loc X.env.scope x) (he:PE X e te) (hs:swapsWith e (some (.Name x pos')) pos.line X.env=pure false:=by rfl) (hf:X.fn x=true∨X.env.scope.names.lookup x=some .local:=by first | exact .inl rfl | exact .inr rfl | assumption) :
  PS X (.Assign [.Name x pos'] e pos) (Hw te (vq i)):=by
 intro pins s σ H D I h
 refine wpAny_Assign_Name (thn (he pins s σ H _ I h) fun v s1 ⟨y,H1,I1,r1,q1⟩=>?_) hs
 exact uo I1 hN hi hx r1 (fun s2 I2=>⟨_,H1,I2,q1⟩) hf
end
section
variable {X:Cx} {pos:Pos}
def HY (c:TT) (tb:TS):TS:=fun D σ H => ∃ W:Nat→St→Hp→Prop,(∃ m,W m σ H) ∧ ∀ m σ H,W m σ H →
 c σ H fun b H1=>if b=true then ∃ N:St→Hp→Prop,(∀ σ' H',N σ' H' → ∃ m',m' < m∧W m' σ' H')∧tb { D with nx:=N,ct:=N,bk:=D.nx } σ H1 else D.nx σ H1
theorem gB {c:Expr} {body:List Stmt} {tc:TT} {tb:TS} (hp:PassesOwn (model X.prog X.w) X.A X.env X.xe) (hc:PT X c tc) (hb:PSs X body tb):PS X (.While c body [] pos) (HY tc tb):=by
 intro pins s σ H D I h
 obtain ⟨W,⟨m0,w0⟩,turn⟩:=h
 refine wpAny_While (codeAny_whileLoop (fun n s' => ∃ σ' H',Inv X pins σ' H' s'∧W n σ' H') ?_ m0 ⟨σ,H,I,w0⟩)
 rintro n s1 ⟨σ1,H1,I1,w1⟩
 refine wpAny_passesOwn hp (thn (hc pins s1 σ1 H1 _ I1 (turn n σ1 H1 w1)) fun b s2 ⟨H2,I2,q2⟩=>?_)
 cases b with
 | true =>
  obtain ⟨N,hN,q2⟩:=q2
  rw [if_pos rfl]
  refine wpAny_passesOwn hp (thn (hb pins s2 σ1 H2 _ I2 q2) fun f s3 q3=>?_)
  cases f with
  | next =>
   obtain ⟨σ3,H3,I3,n3⟩:=q3
   obtain ⟨m',hm,w3⟩:=hN σ3 H3 n3
   exact ⟨m',hm,σ3,H3,I3,w3⟩
  | cont =>
   obtain ⟨σ3,H3,I3,n3⟩:=q3
   obtain ⟨m',hm,w3⟩:=hN σ3 H3 n3
   exact ⟨m',hm,σ3,H3,I3,w3⟩
  | brk=>exact q3
  | ret v=>exact q3
 | false =>
  rw [if_neg Bool.false_ne_true]
  exact wpAny_execs_nil ⟨σ1,H2,I2,q2⟩
end
structure It where
 go:Nat→Hp→Prop
 yld:Nat→Hp→V→Hp→Prop
 stop:Nat→Hp→Prop
def jq (X:Cx) (pins:List (Addr × Obj)) (H:Hp) (b:Addr):Prop :=
 H b=none∧b ≠ X.env.locals∧b ∉ X.fs∧(b∈X.ex∨X.s₀.heap.objs.size≤b)∧(∀ x c,X.env.cells.lookup x=some c→c ≠ b) ∧ ∀ p∈X.pn ++ pins,p.1 ≠ b
theorem Inv.fpOk {X:Cx} {pins:List (Addr × Obj)} {σ:St} {H H':Hp} {s:Shared} {b:Addr} (I:Inv X pins σ H s) (hb:s.heap.objs.size≤b) (hn:H' b=none):jq X pins H' b:=by
 refine ⟨hn,Nat.ne_of_gt (Nat.lt_of_lt_of_le I.lt hb),I.nofs hb,.inr (Nat.le_trans I.sz hb),fun x c e z=>?_,fun p hp z=>?_⟩
 ·obtain ⟨v,q⟩:=I.cell x c e
  exact absurd (Nat.lt_of_lt_of_le q.lt (by rw [z]; exact hb)) (Nat.lt_irrefl _)
 ·exact absurd (Nat.lt_of_lt_of_le (Heap.lt_size (I.pin p hp).1) (by rw [z]; exact hb)) (Nat.lt_irrefl _)
structure Turn (P:Program) (w:World) (K:PySem.W.Frag) (tg:Expr) (J:It) (fp:List Addr) (it:Addr) (tn:Nat→Heap→Prop):Prop where
 mem:it∈fp
 obj : ∀ i h,tn i h → ∀ b∈fp,∃ o,h.get? b=some o ∧ ∀ v,o.data ≠ .cell v
 keep : ∀ i h h',tn i h→(∀ b∈fp,∀ o,h.get? b=some o→h'.get? b=some o)→tn i h'
 item : ∀ (X:Cx),X.prog=P→X.w=w→X.K=K→X.calm=true → ∀ (i:Nat) (pins:List (Addr × Obj)) (s:Shared) (σ:St) (H:Hp) (E:Value→Shared→Prop),Inv X pins σ H s→(∀ b∈fp,jq X pins H b)→tn i s.heap→J.go i H →
  wpAny (model P w) X.A (pyNext (.ref it)) (fun r s1 => ∃ u,r=some u ∧
   wpAny (model P w) X.A (letOwnedTupleGo tg (.ref it) u) (fun _ s2 => ∃ x H',Inv X pins σ H' s2∧RelV x u∧J.yld i H x H'∧tn (i + 1) s2.heap ∧ ∀ b∈fp,H' b=none) E s1) E s
 done : ∀ (X:Cx),X.prog=P→X.w=w→X.K=K→X.calm=true → ∀ (i:Nat) (pins:List (Addr × Obj)) (s:Shared) (σ:St) (H:Hp) (E:Value→Shared→Prop),Inv X pins σ H s→(∀ b∈fp,jq X pins H b)→tn i s.heap→J.stop i H →
  wpAny (model P w) X.A (pyNext (.ref it)) (fun r s1=>r=none∧Inv X pins σ H s1) E s
 self : ∀ (A:Around) (i:Nat) (s:Shared) (Q:Value→Shared→Prop) (E:Value→Shared→Prop),tn i s.heap→Q (.ref it) s→wpAny (model P w) A (pyIter (.ref it)) Q E s
abbrev TI:=St→Hp→(It→Hp→Prop)→Prop
def PIE (X:Cx) (pins:List (Addr × Obj)) (σ:St) (tg:Expr) (R:It→Hp→Prop) (itv:Value) (s2:Shared):Prop :=
 ∃ (it:Addr) (fp:List Addr) (tn:Nat→Heap→Prop) (J:It) (H':Hp),itv=.ref it∧Inv X pins σ H' s2∧Turn X.prog X.w X.K tg J fp it tn∧tn 0 s2.heap∧(∀ b∈fp,jq X pins H' b)∧R J H'
def PI (X:Cx) (tg iter:Expr) (wi:TI):Prop :=
 ∀ (pins:List (Addr × Obj)) (s:Shared) (σ:St) (H:Hp) (R:It→Hp→Prop),Inv X pins σ H s→wi σ H R →
  wpAny (model X.prog X.w) X.A (eval iter X.env) (fun v s1=>wpAny (model X.prog X.w) X.A (pyIter v) (PIE X pins σ tg R) X.xe s1) X.xe s
theorem yN {M:Model} {A:Around} {E:Value→Shared→Prop} {s:Shared} {tg:Expr} {it:Addr} {u:Value} {o:Obj} {n:String} {vs:Array Value} {Q:Unit→Shared→Prop} (ho:s.heap.get? it=some o) (hc:o.cls=.type n) (hd:o.data=.fields vs)
    (hn:["enumerate", "zip", "dict_itemiterator", "dict_reverseitemiterator", "odict_iterator", "itertools.zip_longest", "itertools.pairwise"].contains n=false) (hQ:Q () s):wpAny M A (letOwnedTupleGo tg (.ref it) u) Q E s:=by
  unfold letOwnedTupleGo
  cases tg <;> first
    | exact wpAny_pure hQ
    | (cases u <;> first
        | exact wpAny_pure hQ
        | (refine wpAny_bind (wpAny_load ho ?_)
           rw [hc,hd]
           show wpAny M A (if (["enumerate", "zip", "dict_itemiterator", "dict_reverseitemiterator", "odict_iterator", "itertools.zip_longest", "itertools.pairwise"].contains n && vs[0]? == some (rawInt _))=true then _ else _) Q E s
           rw [if_neg (by intro h; rw [hn,Bool.false_and] at h; cases h)]
           exact wpAny_pure hQ))
def Itl (K:PySem.W.Frag) (a:Addr):It :=
 ⟨fun i H => ∃ xs x,SqL K H a xs∧xs[i]?=some x,fun i H x H'=>H'=H ∧ ∀ xs,SqL K H a xs→xs[i]?=some x,fun i H => ∃ xs,SqL K H a xs∧xs.length≤i⟩
def Itt (K:PySem.W.Frag) (a:Addr):It :=
 ⟨fun i H => ∃ xs x,SqT K H a xs∧xs[i]?=some x,fun i H x H'=>H'=H ∧ ∀ xs,SqT K H a xs→xs[i]?=some x,fun i H => ∃ xs,SqT K H a xs∧xs.length≤i⟩
def Itr (lo:Int) (n:Nat):It:=⟨fun i _=>i < n,fun i H x H'=>H'=H∧x=.int (lo + i),fun i _=>n≤i⟩
theorem vG {P:Program} {w:World} {K:PySem.W.Frag} {tg:Expr} (a it:Addr):Turn P w K tg (Itl K a) [it] it (fun i h=>h.IsListIter it a i) where
 mem:=by simp
 obj:=fun i h st b hb=>by
  have e:b=it:=by simpa using hb
  subst e
  obtain ⟨o,e,c,d⟩:=st
  exact ⟨o,e,fun v z=>by rw [d] at z; cases z⟩
 keep:=fun i h h' st k=>st.at fun o e=>k it (by simp) o e
 item:=by
  intro X hP hw hK hc i pins s σ H E I hf st hg
  subst hP hw hK
  obtain ⟨xs,x,hq,hx⟩:=hg
  obtain ⟨its,rv,p,hz⟩:=I.list hq
  obtain ⟨u,hu,ru⟩:=rv.get hx
  obtain ⟨f0,f1,f2,f3,f4,f5⟩:=hf it (by simp)
  refine wpAny_pyNext_list_item st p.isList (x:=u) (by simpa using hu) fun h' st' sb=>?_
  have I1:Inv X pins σ H { s with heap:=h' }:=I.turned (t':=s.toks) (fun b o hb e=>(sb.2 b hb).trans e) f0 f1 f3 f4 f5
  obtain ⟨o,e,c,d⟩:=id st'
  exact ⟨u,rfl,yN (s:={ s with heap:=h' }) e c d (by decide) ⟨x,H,I1,ru,⟨rfl,fun ys hy=>by rw [I.list_inj hy hq]; exact hx⟩,st',fun b hb=>(hf b hb).1⟩⟩
 done:=by
  intro X hP hw hK hc i pins s σ H E I hf st hg
  subst hP hw hK
  obtain ⟨xs,hq,hx⟩:=hg
  obtain ⟨its,rv,p,hz⟩:=I.list hq
  obtain ⟨f0,f1,f2,f3,f4,f5⟩:=hf it (by simp)
  have hl:=rv.length
  exact wpAny_pyNext_list_end (I.ok.hd hc) st p.isList (by simp; omega) fun h' eb=>⟨rfl,I.turned (t':=s.toks) (fun b o hb e=>eb b o hb e) f0 f1 f3 f4 f5⟩
 self:=fun _ _ _ _ _ st h=>wpAny_pyIter_listiter st h
theorem zu {P:Program} {w:World} {K:PySem.W.Frag} {tg:Expr} (a it:Addr):Turn P w K tg (Itt K a) [it] it (fun i h=>h.IsTupleIter it a i) where
 mem:=by simp
 obj:=fun i h st b hb=>by
  have e:b=it:=by simpa using hb
  subst e
  obtain ⟨o,e,c,d⟩:=st
  exact ⟨o,e,fun v z=>by rw [d] at z; cases z⟩
 keep:=fun i h h' st k=>st.at fun o e=>k it (by simp) o e
 item:=by
  intro X hP hw hK hc i pins s σ H E I hf st hg
  subst hP hw hK
  obtain ⟨xs,x,hq,hx⟩:=hg
  obtain ⟨its,rv,p,hz⟩:=I.tuple hq
  obtain ⟨u,hu,ru⟩:=rv.get hx
  obtain ⟨f0,f1,f2,f3,f4,f5⟩:=hf it (by simp)
  refine wpAny_pyNext_tuple_item st (show s.heap.IsTuple a its.toArray from p) (x:=u) (by simpa using hu) fun h' st' sb=>?_
  have I1:Inv X pins σ H { s with heap:=h' }:=I.turned (t':=s.toks) (fun b o hb e=>(sb.2 b hb).trans e) f0 f1 f3 f4 f5
  obtain ⟨o,e,c,d⟩:=id st'
  exact ⟨u,rfl,yN (s:={ s with heap:=h' }) e c d (by decide) ⟨x,H,I1,ru,⟨rfl,fun ys hy=>by rw [I.tuple_inj hy hq]; exact hx⟩,st',fun b hb=>(hf b hb).1⟩⟩
 done:=by
  intro X hP hw hK hc i pins s σ H E I hf st hg
  subst hP hw hK
  obtain ⟨xs,hq,hx⟩:=hg
  obtain ⟨its,rv,p,hz⟩:=I.tuple hq
  obtain ⟨f0,f1,f2,f3,f4,f5⟩:=hf it (by simp)
  have hl:=rv.length
  exact wpAny_pyNext_tuple_end (I.ok.hd hc) st (show s.heap.IsTuple a its.toArray from p) (by simp; omega) fun h' eb=>⟨rfl,I.turned (t':=s.toks) (fun b o hb e=>eb b o hb e) f0 f1 f3 f4 f5⟩
 self:=fun _ _ _ _ _ st h=>wpAny_pyIter_tupleiter st h
theorem Bk {P:Program} {w:World} {K:PySem.W.Frag} {tg:Expr} (it:Addr) (lo:Int) (n:Nat):Turn P w K tg (Itr lo n) [it] it (fun i h=>IsRangeIter h it (lo + (i:Nat) * 1) ((n:Int) - (i:Nat)) 1) where
 mem:=by simp
 obj:=fun i h st b hb=>by
  have e:b=it:=by simpa using hb
  subst e
  exact ⟨_,st,fun v z=>by
   have z':Data.fields _=Data.cell v:=z
   cases z'⟩
 keep:=fun i h h' st k=>k it (by simp) _ st
 item:=by
  intro X hP hw hK hc i pins s σ H E I hf st hg
  subst hP hw hK
  obtain ⟨f0,f1,f2,f3,f4,f5⟩:=hf it (by simp)
  have W:=Walks.range (prog:=X.prog) (w:=X.w) (I.ok.hd hc) it lo 1 n
  refine W.item i s _ _ hg st fun v h' tk hv st' kk=>?_
  obtain ⟨t,rfl⟩:=hv
  have I1:Inv X pins σ H { s with heap:=h',toks:=tk }:=I.turned (fun b o hb e=>kk b o (by simpa using hb) e) f0 f1 f3 f4 f5
  refine ⟨_,rfl,yN (s:={ s with heap:=h',toks:=tk }) (n := "range_iterator") st' rfl rfl (by decide) ⟨.int (lo + i),H,I1,⟨t,?_⟩,⟨rfl,rfl⟩,st',fun b hb=>(hf b hb).1⟩⟩
  rw [Int.mul_one]
 done:=by
  intro X hP hw hK hc i pins s σ H E I hf st hg
  subst hP hw hK
  obtain ⟨f0,f1,f2,f3,f4,f5⟩:=hf it (by simp)
  exact wpAny_pyNext_range_end (I.ok.hd hc) st (by have:n≤i:=hg; omega) fun h' eb=>⟨rfl,I.turned (t':=s.toks) (fun b o hb e=>eb b o hb e) f0 f1 f3 f4 f5⟩
 self:=fun _ _ _ _ _ st h=>wpAny_pyIter_rangeiter st h
end L2
namespace L2
open PySem PySem.Spec PyProof.Rows
section
variable {X:Cx} {tg:Expr}
def Js (K:PySem.W.Frag) (tl:TE):TI:=fun σ H R=>tl σ H fun x H1 => ∃ a,x=.ref a∧(∃ xs,SqL K H1 a xs)∧R (Itl K a) H1
theorem dw {l:Expr} {tl:TE} (hl:PE X l tl):PI X tg l (Js X.K tl):=by
 intro pins s σ H R I h
 refine thn (hl pins s σ H _ I h) fun v s1 ⟨x,H1,I1,r1,q1⟩=>?_
 obtain ⟨a,e,⟨xs,hq⟩,q⟩:=q1
 subst e
 cases r1
 obtain ⟨its,rv,p,hz⟩:=I1.list hq
 refine wpAny_pyIter_list p.isList ?_
 refine ⟨s1.heap.objs.size,[s1.heap.objs.size],_,_,H1,rfl,I1.kept (t':=s1.toks) fun b o e=>Heap.get?_push_of_some _ e,vG a _,⟨_,Heap.get?_push_size _ rfl,rfl,rfl⟩,fun b hb=>?_,q⟩
 have e:b=s1.heap.objs.size:=by simpa using hb
 subst e
 exact I1.fpOk (Nat.le_refl _) (I1.hok.fresh (Nat.le_refl _))
theorem Eo {pins:List (Addr × Obj)} {σ:St} {H:Hp} {s:Shared} {R:It→Hp→Prop} {E:Value→Shared→Prop} {lo hi:Int} {t u v:Tok} {tk:Nat} (I:Inv X pins σ H s) (h1 : -(2 ^ 62)≤lo) (h2:lo < 2 ^ 62) (h3 : -(2 ^ 62)≤hi) (h4:hi < 2 ^ 62)
  (q:R (Itr lo (hi - lo).toNat) H):wpAny (model X.prog X.w) X.A (pyIter (.ref s.heap.objs.size)) (PIE X pins σ tg R) E { s with heap:=s.heap.push { cls:=.type "range", data:=.fields #[.int lo t,.int hi u,.int 1 v] },toks:=tk }:=by
 refine wpAny_pyIter_range (IsRange.new ..) (small_one h1 h2 h3 h4) ?_
 have I1:Inv X pins σ H { s with heap:=s.heap.push { cls:=.type "range", data:=.fields #[.int lo t,.int hi u,.int 1 v] },toks:=tk }:=I.kept fun b o e=>Heap.get?_push_of_some _ e
 refine ⟨(s.heap.push { cls:=.type "range", data:=.fields #[.int lo t,.int hi u,.int 1 v] }).objs.size,[(s.heap.push { cls:=.type "range", data:=.fields #[.int lo t,.int hi u,.int 1 v] }).objs.size],_,_,H,rfl,
  I1.kept (t':=tk) fun b o e=>Heap.get?_push_of_some _ e,Bk _ lo (hi - lo).toNat,?_,fun b hb=>?_,q⟩
 ·have e1:lo + ((0:Nat):Int) * 1=lo:=by simp
  have e2:(((hi - lo).toNat:Nat):Int) - ((0:Nat):Int)=Builtin.Range.rangeSize lo hi 1:=by rw [rangeSize_one]; split <;> omega
  show IsRangeIter _ _ (lo + ((0:Nat):Int) * 1) ((((hi - lo).toNat:Nat):Int) - ((0:Nat):Int)) 1
  rw [e1,e2]
  exact Heap.get?_push_size _ rfl
 ·have e:b=(s.heap.push { cls:=.type "range", data:=.fields #[.int lo t,.int hi u,.int 1 v] }).objs.size:=by simpa using hb
  subst e
  exact I1.fpOk (Nat.le_refl _) (I1.hok.fresh (Nat.le_refl _))
def JS (ta:TA):TI:=fun σ H R=>ta σ H fun vs H1 => ∃ j:Int,vs=[.int j] ∧ -(2 ^ 62)≤j∧j < 2 ^ 62∧R (Itr 0 j.toNat) H1
theorem iY {a:Expr} {ta:TA} {p pos:Pos} (hg:Gl X "range") (hm:X.mg "range" = none) (ha:PA X [a] ta) (hs:starEach [a] X.env=[(false,eval a X.env)]:=by rfl):PI X tg (.Call (.Name "range" p) [a] [] pos) (JS ta):=by
 intro pins s σ H R I h
 refine Call_ (eO I hg hm boot_range (PyProof.Rows.callWith_type1 (thn (ha pos pins s σ H _ I h) fun us s1 ⟨vs,H1,I1,r1,q1⟩=>?_) hs rfl))
 obtain ⟨j,e,q1,q2,q⟩:=q1
 subst e
 cases r1 with
 | cons r rr =>
  cases rr
  obtain ⟨t,rfl⟩:=r
  exact call_range_1 (Eo I1 (by omega) (by omega) q1 q2 (by simpa using q))
def J0 (wi:TI) (g:TG) (tb:TS):TS:=fun D σ H=>wi σ H fun J H1 => ∃ W:Nat→Nat→St→Hp→Prop,(∃ m,W 0 m σ H1) ∧ ∀ i m σ H,W i m σ H →
 (J.stop i H∧D.nx σ H)∨(J.go i H ∧ ∃ N:St→Hp→Prop,(∀ σ' H',N σ' H' → ∃ m',m' < m∧W (i + 1) m' σ' H') ∧ ∀ x H',J.yld i H x H'→g x σ H' fun σ2 H2=>tb { D with nx:=N,ct:=N,bk:=D.nx } σ2 H2)
def qe (fp:List Addr) (h:Heap):List (Addr × Obj):=fp.filterMap fun b=>(h.get? b).map fun o=>(b,o)
theorem eZ {fp:List Addr} {h:Heap} {b:Addr} {o:Obj} (hb:b∈fp) (e:h.get? b=some o):(b,o)∈qe fp h:=List.mem_filterMap.mpr ⟨b,hb,by rw [e]; rfl⟩
theorem Cu {fp:List Addr} {h:Heap} {p:Addr × Obj} (hp:p∈qe fp h):p.1∈fp∧h.get? p.1=some p.2:=by
 obtain ⟨b,hb,e⟩:=List.mem_filterMap.mp hp
 cases q:h.get? b with
 | none=>rw [q] at e; cases e
 | some o =>
  rw [q] at e
  have e':(b,o)=p:=Option.some.inj e
  subst e'
  exact ⟨hb,q⟩
theorem Inv.pinned {pins:List (Addr × Obj)} {σ:St} {H:Hp} {s:Shared} {fp:List Addr} (I:Inv X pins σ H s) (hf : ∀ b∈fp,jq X pins H b) (ho : ∀ b∈fp,∃ o,s.heap.get? b=some o ∧ ∀ v,o.data ≠ .cell v):Inv X (pins ++ qe fp s.heap) σ H s :=
 I.pins_of fun p hp=>(List.mem_append.mp hp).elim (fun z=>I.pin p (List.mem_append_right _ z)) fun z=>by
  obtain ⟨hb,e⟩:=Cu z
  obtain ⟨f0,f1,f2,_⟩:=hf p.1 hb
  obtain ⟨o,e',d⟩:=ho p.1 hb
  rw [e] at e'; cases e'
  exact ⟨e,f0,f1,f2,d⟩
theorem Inv.unpinned {pins pl:List (Addr × Obj)} {σ:St} {H:Hp} {s:Shared} (I:Inv X (pins ++ pl) σ H s):Inv X pins σ H s:=I.pins_of fun p hp=>I.pin p (List.mem_append_right _ (List.mem_append_left _ hp))
theorem bV {iter:Expr} {body:List Stmt} {wi:TI} {g:TG} {tb:TS} {pos:Pos} (hp:PassesOwn (model X.prog X.w) X.A X.env X.xe) (hc:X.calm=true) (hi:PI X tg iter wi) (hg:PG X tg g) (hb:PSs X body tb)
  (hs : ∀ x,foldedSetIterable iter X.env x=pure x:=by intro _; rfl):PS X (.For tg iter body [] pos) (J0 wi g tb):=by
 intro pins s σ H D I h
 refine wpAny_For (thn (hi pins s σ H _ I h) fun v s1 h1=>thn h1 fun itv s2 h2=>?_) hs
 obtain ⟨it,fp,tn,J,H2,e,I2,T,st2,f2,W,⟨m0,w0⟩,turn⟩:=h2
 subst e
 have stat : ∀ {H':Hp},(∀ b∈fp,H' b=none) → ∀ b∈fp,jq X pins H' b:=fun hn b hb=>⟨hn b hb,(f2 b hb).2⟩
 refine codeAny_forLoop_any (fun n s' => ∃ i σ' H',Inv X pins σ' H' s'∧tn i s'.heap∧(∀ b∈fp,H' b=none)∧W i n σ' H') ?_ m0 ⟨0,σ,H2,I2,st2,fun b hb=>(f2 b hb).1,w0⟩
 rintro n s3 ⟨i,σ3,H3,I3,st3,fr3,w3⟩
 rcases turn i n σ3 H3 w3 with ⟨stop,qn⟩ | ⟨go,N,hN,step⟩
 ·refine wpAny_passesOwn hp (thn (T.done X rfl rfl rfl hc i pins s3 σ3 H3 X.xe I3 (stat fr3) st3 stop) fun r s4 ⟨hr,I4⟩=>?_)
  subst hr
  exact wpAny_execs_nil ⟨σ3,H3,I4,qn⟩
 ·refine wpAny_passesOwn hp (thn (T.item X rfl rfl rfl hc i pins s3 σ3 H3 X.xe I3 (stat fr3) st3 go) fun r s4 ⟨u,hr,h4⟩=>?_)
  subst hr
  refine wpAny_passesOwn hp (thn h4 fun _ s5 ⟨x,H5,I5,r5,y5,st5,fr5⟩=>?_)
  have I5':=I5.pinned (stat fr5) (T.obj _ _ st5)
  refine wpAny_passesOwn hp (thn (hg _ s5 σ3 H5 x u _ I5' r5 (step x H5 y5)) fun _ s6 ⟨σ6,H6,I6,q6⟩=>?_)
  refine wpAny_passesOwn hp (thn (hb _ s6 σ6 H6 _ I6 q6) fun f s7 q7=>?_)
  have again : ∀ {σ7:St} {H7:Hp},Inv X (pins ++ qe fp s5.heap) σ7 H7 s7→N σ7 H7 → ∃ m,m < n ∧ ∃ i σ' H',Inv X pins σ' H' s7∧tn i s7.heap∧(∀ b∈fp,H' b=none)∧W i m σ' H':=fun {σ7 H7} I7 n7=>by
   obtain ⟨m',hm,w7⟩:=hN σ7 H7 n7
   refine ⟨m',hm,i + 1,σ7,H7,I7.unpinned,T.keep _ _ _ st5 fun b hb o e=>(I7.pin (b,o) (List.mem_append_right _ (List.mem_append_right _ (eZ hb e)))).1,fun b hb=>?_,w7⟩
   obtain ⟨o,e,d⟩:=T.obj _ _ st5 b hb
   exact (I7.pin (b,o) (List.mem_append_right _ (List.mem_append_right _ (eZ hb e)))).2.1
  cases f with
  | next=>obtain ⟨σ7,H7,I7,n7⟩:=q7; exact again I7 n7
  | cont=>obtain ⟨σ7,H7,I7,n7⟩:=q7; exact again I7 n7
  | brk=>obtain ⟨σ7,H7,I7,q7⟩:=q7; exact ⟨σ7,H7,I7.unpinned,q7⟩
  | ret v=>obtain ⟨x7,σ7,H7,I7,r7,q7⟩:=q7; exact ⟨x7,σ7,H7,I7.unpinned,r7,q7⟩
end
theorem cO {K:PySem.W.Frag} {a:Addr} {xs:List V} {g:TG} {tb:TS} {D:Ends} {σ:St} {H:Hp} (Pv:Nat→St→Hp→Prop) (h0:Pv 0 σ H) (hl : ∀ i σ H,i≤xs.length→Pv i σ H→SqL K H a xs)
  (hs : ∀ i x σ H,xs[i]?=some x→Pv i σ H→g x σ H fun σ2 H2=>tb { D with nx:=Pv (i + 1),ct:=Pv (i + 1),bk:=D.nx } σ2 H2) (hd : ∀ σ H,Pv xs.length σ H→D.nx σ H) :
  ∃ W:Nat→Nat→St→Hp→Prop,(∃ m,W 0 m σ H) ∧ ∀ i m σ H,W i m σ H →
   ((Itl K a).stop i H∧D.nx σ H)∨((Itl K a).go i H ∧ ∃ N:St→Hp→Prop,(∀ σ' H',N σ' H' → ∃ m',m' < m∧W (i + 1) m' σ' H') ∧ ∀ x H',(Itl K a).yld i H x H'→g x σ H' fun σ2 H2=>tb { D with nx:=N,ct:=N,bk:=D.nx } σ2 H2):=by
 refine ⟨fun i m σ H=>m=xs.length - i∧i≤xs.length∧Pv i σ H,⟨xs.length,by simp,Nat.zero_le _,h0⟩,?_⟩
 rintro i m σ H ⟨rfl,hi,p⟩
 have q:=hl i σ H hi p
 by_cases hlt:i < xs.length
 ·refine .inr ⟨⟨xs,xs[i],q,by simp [hlt]⟩,Pv (i + 1),fun σ' H' p'=>⟨xs.length - (i + 1),by omega,rfl,hlt,p'⟩,fun x H' y=>?_⟩
  obtain ⟨e,y⟩:=y
  subst e
  exact hs i x σ _ (y xs q) p
 ·have e:i=xs.length:=by omega
  subst e
  exact .inl ⟨⟨xs,q,Nat.le_refl _⟩,hd σ H p⟩
theorem GQ {K:PySem.W.Frag} {a:Addr} {xs:List V} {g:TG} {tb:TS} {D:Ends} {σ:St} {H:Hp} (Pv:Nat→St→Hp→Prop) (h0:Pv 0 σ H) (hl : ∀ i σ H,i≤xs.length→Pv i σ H→SqT K H a xs)
  (hs : ∀ i x σ H,xs[i]?=some x→Pv i σ H→g x σ H fun σ2 H2=>tb { D with nx:=Pv (i + 1),ct:=Pv (i + 1),bk:=D.nx } σ2 H2) (hd : ∀ σ H,Pv xs.length σ H→D.nx σ H) :
  ∃ W:Nat→Nat→St→Hp→Prop,(∃ m,W 0 m σ H) ∧ ∀ i m σ H,W i m σ H →
   ((Itt K a).stop i H∧D.nx σ H)∨((Itt K a).go i H ∧ ∃ N:St→Hp→Prop,(∀ σ' H',N σ' H' → ∃ m',m' < m∧W (i + 1) m' σ' H') ∧ ∀ x H',(Itt K a).yld i H x H'→g x σ H' fun σ2 H2=>tb { D with nx:=N,ct:=N,bk:=D.nx } σ2 H2):=by
 refine ⟨fun i m σ H=>m=xs.length - i∧i≤xs.length∧Pv i σ H,⟨xs.length,by simp,Nat.zero_le _,h0⟩,?_⟩
 rintro i m σ H ⟨rfl,hi,p⟩
 have q:=hl i σ H hi p
 by_cases hlt:i < xs.length
 ·refine .inr ⟨⟨xs,xs[i],q,by simp [hlt]⟩,Pv (i + 1),fun σ' H' p'=>⟨xs.length - (i + 1),by omega,rfl,hlt,p'⟩,fun x H' y=>?_⟩
  obtain ⟨e,y⟩:=y
  subst e
  exact hs i x σ _ (y xs q) p
 ·have e:i=xs.length:=by omega
  subst e
  exact .inl ⟨⟨xs,q,Nat.le_refl _⟩,hd σ H p⟩
theorem pY {lo:Int} {n:Nat} {g:TG} {tb:TS} {D:Ends} {σ:St} {H:Hp} (Pv:Nat→St→Hp→Prop) (h0:Pv 0 σ H)
  (hs : ∀ i σ H,i < n→Pv i σ H→g (.int (lo + i)) σ H fun σ2 H2=>tb { D with nx:=Pv (i + 1),ct:=Pv (i + 1),bk:=D.nx } σ2 H2) (hd : ∀ σ H,Pv n σ H→D.nx σ H) :
  ∃ W:Nat→Nat→St→Hp→Prop,(∃ m,W 0 m σ H) ∧ ∀ i m σ H,W i m σ H →
   ((Itr lo n).stop i H∧D.nx σ H)∨((Itr lo n).go i H ∧ ∃ N:St→Hp→Prop,(∀ σ' H',N σ' H' → ∃ m',m' < m∧W (i + 1) m' σ' H') ∧ ∀ x H',(Itr lo n).yld i H x H'→g x σ H' fun σ2 H2=>tb { D with nx:=N,ct:=N,bk:=D.nx } σ2 H2):=by
 refine ⟨fun i m σ H=>m=n - i∧i≤n∧Pv i σ H,⟨n,by simp,Nat.zero_le _,h0⟩,?_⟩
 rintro i m σ H ⟨rfl,hi,p⟩
 by_cases hlt:i < n
 ·refine .inr ⟨hlt,Pv (i + 1),fun σ' H' p'=>⟨n - (i + 1),by omega,rfl,hlt,p'⟩,fun x H' y=>?_⟩
  obtain ⟨e,y⟩:=y
  subst e y
  exact hs i σ _ hlt p
 ·have e:i=n:=by omega
  subst e
  exact .inl ⟨Nat.le_refl _,hd σ H p⟩
end L2
namespace L2
open PySem PySem.Spec PyProof.Rows
abbrev R2:=V→V→Hp→VK→Prop
def OpR (X:Cx) (f:Value→Value→Sem Value) (r:R2):Prop :=
 ∀ (pins:List (Addr × Obj)) (s:Shared) (σ:St) (H:Hp) (x y:V) (v u:Value) (Q:VK),Inv X pins σ H s→RelV x v→RelV y u→r x y H Q →
  wpAny (model X.prog X.w) X.A (f v u) (EP X pins σ Q) X.xe s
def UnR (X:Cx) (f:Value→Sem Value) (r:V→Hp→VK→Prop):Prop :=
 ∀ (pins:List (Addr × Obj)) (s:Shared) (σ:St) (H:Hp) (x:V) (v:Value) (Q:VK),Inv X pins σ H s→RelV x v→r x H Q →
  wpAny (model X.prog X.w) X.A (f v) (EP X pins σ Q) X.xe s
def jj (X:Cx) (f:Value) (r:List V→Hp→VK→Prop):Prop :=
 ∀ (pins:List (Addr × Obj)) (s:Shared) (σ:St) (H:Hp) (xs:List V) (us:List Value) (Q:VK),Inv X pins σ H s→Vals xs us→r xs H Q →
  wpAny (model X.prog X.w) X.A (call f us) (EP X pins σ Q) X.xe s
def tOp (r:R2) (ta tb:TE):TE:=fun σ H Q=>ta σ H fun x H1=>tb σ H1 fun y H2=>r x y H2 Q
def tUn (r:V→Hp→VK→Prop) (ta:TE):TE:=fun σ H Q=>ta σ H fun x H1=>r x H1 Q
def rI (C:Int→Int→Prop) (g:Int→Int→V):R2:=fun x y H Q => ∃ i j,x=.int i∧y=.int j∧C i j∧Q (g i j) H
def rI0 (g:Int→Int→V):R2:=fun x y H Q => ∃ i j,x=.int i∧y=.int j∧Q (g i j) H
def rU (g:Int→V):V→Hp→VK→Prop:=fun x H Q => ∃ i,x=.int i∧Q (g i) H
section
variable {X:Cx} {a b c:Expr} {ta tb tc:TE} {pos:Pos}
theorem Jg (ha:PE X a ta) (hb:PE X b tb) {pins:List (Addr × Obj)} {s:Shared} {σ:St} {H:Hp} {R:V→V→Hp→Prop} (I:Inv X pins σ H s)
  (h:ta σ H fun x H1=>tb σ H1 fun y H2=>R x y H2) {Q:Value→Shared→Prop} {f:Value→Value→Sem Value}
  (hf : ∀ v u s2 x y H2,Inv X pins σ H2 s2→RelV x v→RelV y u→R x y H2→wpAny (model X.prog X.w) X.A (f v u) Q X.xe s2) :
  wpAny (model X.prog X.w) X.A (eval a X.env) (fun v s₁=>wpAny (model X.prog X.w) X.A (eval b X.env) (fun u s₂=>wpAny (model X.prog X.w) X.A (f v u) Q X.xe s₂) X.xe s₁) X.xe s:=by
 refine thn (ha pins s σ H _ I h) fun v s1 ⟨x,H1,I1,r1,q1⟩=>?_
 refine thn (hb pins s1 σ H1 _ I1 q1) fun u s2 ⟨y,H2,I2,r2,q2⟩=>?_
 exact hf v u s2 x y H2 I2 r1 r2 q2
theorem aF {op:Operator} {r:R2} (ho:OpR X (binaryOp op) r) (ha:PE X a ta) (hb:PE X b tb):PE X (.BinOp a op b pos) (tOp r ta tb):=by
 intro pins s σ H Q I h
 exact wpAny_BinOp (Jg ha hb I h fun v u s2 x y H2 I2 rx ry q=>ho pins s2 σ H2 x y v u Q I2 rx ry q)
theorem vp {op:UnaryOp} {r:V→Hp→VK→Prop} (ho:UnR X (unaryOp op) r) (ha:PE X a ta):PE X (.UnaryOp op a pos) (tUn r ta):=by
 intro pins s σ H Q I h
 exact UnaryOp_ (thn (ha pins s σ H _ I h) fun v s1 ⟨x,H1,I1,r1,q1⟩=>ho pins s1 σ H1 x v Q I1 r1 q1)
theorem opI {f:Value→Value→Sem Value} {C:Int→Int→Prop} {g:Int→Int→Int}
  (rule : ∀ (i j:Int) (t u:Tok) (s:Shared) (Q:Value→Shared→Prop) (E:Value→Shared→Prop),C i j→Q (.int (g i j) s.toks) { s with toks:=s.toks + 1 }→wpAny (model X.prog X.w) X.A (f (.int i t) (.int j u)) Q E s) :
  OpR X f (rI C fun i j=>.int (g i j)):=by
 intro pins s σ H x y v u Q I rx ry h
 obtain ⟨i,j,rfl,rfl,hc,q⟩:=h
 obtain ⟨t,rfl⟩:=rx
 obtain ⟨t',rfl⟩:=ry
 exact rule i j t t' s _ _ hc ⟨.int (g i j),H,I.tok _,⟨_,rfl⟩,q⟩
theorem Ig {f:Value→Value→Sem Value} {g:Int→Int→Int}
  (rule : ∀ (i j:Int) (t u:Tok) (s:Shared) (Q:Value→Shared→Prop) (E:Value→Shared→Prop),Q (.int (g i j) s.toks) { s with toks:=s.toks + 1 }→wpAny (model X.prog X.w) X.A (f (.int i t) (.int j u)) Q E s) :
  OpR X f (rI0 fun i j=>.int (g i j)):=by
 intro pins s σ H x y v u Q I rx ry h
 obtain ⟨i,j,rfl,rfl,q⟩:=h
 obtain ⟨t,rfl⟩:=rx
 obtain ⟨t',rfl⟩:=ry
 exact rule i j t t' s _ _ ⟨.int (g i j),H,I.tok _,⟨_,rfl⟩,q⟩
theorem GD {f:Value→Value→Sem Value} {g:Int→Int→Bool}
  (rule : ∀ (i j:Int) (t u:Tok) (s:Shared) (Q:Value→Shared→Prop) (E:Value→Shared→Prop),Q (.bool (g i j)) s→wpAny (model X.prog X.w) X.A (f (.int i t) (.int j u)) Q E s) :
  OpR X f (rI0 fun i j=>.bl (g i j)):=by
 intro pins s σ H x y v u Q I rx ry h
 obtain ⟨i,j,rfl,rfl,q⟩:=h
 obtain ⟨t,rfl⟩:=rx
 obtain ⟨t',rfl⟩:=ry
 exact rule i j t t' s _ _ ⟨.bl (g i j),H,I,rfl,q⟩
def JV (i j:Int):Prop:=0 < j∧j < 1073741824
def Ji (i j:Int):Prop:=(-(2 ^ 64) < i∧i < 2 ^ 64)∨(-(2 ^ 64) < j∧j < 2 ^ 64)
theorem Ji.ok {i j:Int} (h:Ji i j):IntMulOk i j:=by
 rcases h with ⟨h1,h2⟩ | ⟨h1,h2⟩
 ·exact .of_left (intBits_le_64 h1 h2)
 ·exact .of_right (intBits_le_64 h1 h2)
theorem zT (k:Nat):(0:Int)≤2 ^ k:=by
 rw [two_pow_cast]
 exact Int.natCast_nonneg _
theorem bj:OpR X (binaryOp .Add) (rI0 fun i j=>.int (i + j)):=Ig fun _ _ _ _ _ _ _ q=>add_int q
theorem bB:OpR X (binaryOp .Sub) (rI0 fun i j=>.int (i - j)):=Ig fun _ _ _ _ _ _ _ q=>sub_int q
theorem bR:OpR X (binaryOp .Mult) (rI Ji fun i j=>.int (i * j)):=opI fun _ _ _ _ _ _ _ hc q=>mul_int q hc.ok
theorem cu:OpR X (binaryOp .FloorDiv) (rI JV fun i j=>.int (i / j)):=opI fun i j _ _ _ _ _ hc q=>by
 have h1:(0:Int) < j:=hc.1
 have h2:j < 1073741824:=hc.2
 exact floordiv_int (by omega) (by rw [Int.fdiv_eq_ediv_of_nonneg i (by omega)]; exact q) (.inl (PyProof.noPylong_small (by omega)))
theorem cR:OpR X (binaryOp .Mod) (rI (fun _ j=>0 < j) fun i j=>.int (i % j)):=opI fun i j _ _ _ _ _ hc q=>by
 have h1:(0:Int) < j:=hc
 exact mod_int' (by omega) (by rw [Int.fmod_eq_emod_of_nonneg i (by omega)]; exact q)
theorem Jf:OpR X (binaryOp .RShift) (rI (fun _ j=>0≤j) fun i j=>.int (i / 2 ^ j.toNat)):=opI fun i j _ _ _ _ _ hc q =>
 rshift_int hc (by rw [Int.fdiv_eq_ediv_of_nonneg i (zT _)]; exact q)
theorem Ip:OpR X (binaryOp .BitAnd) (rI0 fun i j=>.int (Builtin.bitAnd i j)):=Ig fun _ _ _ _ _ _ _ q=>and_int q
theorem unI {f:Value→Sem Value} {g:Int→Int}
  (rule : ∀ (i:Int) (t:Tok) (s:Shared) (Q:Value→Shared→Prop) (E:Value→Shared→Prop),Q (.int (g i) s.toks) { s with toks:=s.toks + 1 }→wpAny (model X.prog X.w) X.A (f (.int i t)) Q E s) :
  UnR X f (rU fun i=>.int (g i)):=by
 intro pins s σ H x v Q I rx h
 obtain ⟨i,rfl,q⟩:=h
 obtain ⟨t,rfl⟩:=rx
 exact rule i t s _ _ ⟨.int (g i),H,I.tok _,⟨_,rfl⟩,q⟩
theorem oO:UnR X (unaryOp .USub) (rU fun i=>.int (-i)):=unI fun _ _ _ _ _ q=>neg_int q
end
def JL:V→V→Bool
 | .non,.non=>true | .non,.int _=>true | .int _,.non=>true | .non,.bl _=>true | .bl _,.non=>true | .non,.str _=>true | .str _,.non=>true
 | .int _,.int _=>true | .bl _,.bl _=>true | .str _,.str _=>true | .byt _,.byt _=>true
 | .int _,.str _=>true | .str _,.int _=>true | .bl _,.str _=>true | .str _,.bl _=>true
 | _,_=>false
def rEq:R2:=fun x y H Q=>JL x y=true∧Q (.bl (decide (x=y))) H
def rNe:R2:=fun x y H Q=>JL x y=true∧Q (.bl (!decide (x=y))) H
theorem Cd {i j:Int}:decide (V.int i=V.int j)=(i == j):=by
 rw [Bool.eq_iff_iff]
 simp
theorem Ep {i j:Bool}:decide (V.bl i=V.bl j)=(i == j):=by
 rw [Bool.eq_iff_iff]
 simp
theorem Bm {i j:Str}:decide (V.str i=V.str j)=(i == j):=by
 rw [Bool.eq_iff_iff]
 simp
theorem Bw {i j:Array UInt8}:decide (V.byt i=V.byt j)=(i.toList == j.toList):=by
 rw [Bool.eq_iff_iff]
 cases i
 cases j
 simp
section
variable {X:Cx} {a b c:Expr} {ta tb tc:TE} {pos:Pos}
theorem bI {pins:List (Addr × Obj)} {σ:St} {H:Hp} {s:Shared} {Q:VK} {k k':Bool} (I:Inv X pins σ H s) (q:Q (.bl k) H) (e:k=k'):EP X pins σ Q (.bool k') s:=by
 subst e
 exact ⟨.bl k,H,I,rfl,q⟩
theorem bJ:OpR X (compareOp .Eq) rEq:=by
 intro pins s σ H x y v u Q I rx ry h
 obtain ⟨hs,q⟩:=h
 cases x with
 | non =>
  cases rx
  cases y with
  | non=>cases ry; exact PySem.EqNone.eq_none_none (bI I q (by simp))
  | bl j=>cases ry; exact PySem.EqNone.eq_none_bool (bI I q (by simp))
  | int j=>obtain ⟨t',rfl⟩:=ry; exact PySem.EqNone.eq_none_int (bI I q (by simp))
  | str j=>obtain ⟨t',rfl⟩:=ry; exact PySem.EqNone.eq_none_str (bI I q (by simp))
  | _=>exact absurd (show false=true from hs) Bool.false_ne_true
 | bl i =>
  cases rx
  cases y with
  | non=>cases ry; exact PySem.EqNone.eq_bool_none (bI I q (by simp))
  | bl j=>cases ry; exact eq_bool (bI I q Ep)
  | str j=>obtain ⟨t',rfl⟩:=ry; exact PySem.EqMixed.eq_bool_str (bI I q (by simp))
  | _=>exact absurd (show false=true from hs) Bool.false_ne_true
 | int i =>
  obtain ⟨t,rfl⟩:=rx
  cases y with
  | non=>cases ry; exact PySem.EqNone.eq_int_none (bI I q (by simp))
  | int j=>obtain ⟨t',rfl⟩:=ry; exact eq_int (bI I q Cd)
  | str j=>obtain ⟨t',rfl⟩:=ry; exact PySem.EqMixed.eq_int_str (bI I q (by simp))
  | _=>exact absurd (show false=true from hs) Bool.false_ne_true
 | str i =>
  obtain ⟨t,rfl⟩:=rx
  cases y with
  | non=>cases ry; exact PySem.EqNone.eq_str_none (bI I q (by simp))
  | bl j=>cases ry; exact PySem.EqMixed.eq_str_bool (bI I q (by simp))
  | int j=>obtain ⟨t',rfl⟩:=ry; exact PySem.EqMixed.eq_str_int (bI I q (by simp))
  | str j=>obtain ⟨t',rfl⟩:=ry; exact eq_str (bI I q Bm)
  | _=>exact absurd (show false=true from hs) Bool.false_ne_true
 | byt i =>
  obtain ⟨t,rfl⟩:=rx
  cases y with
  | byt j=>obtain ⟨t',rfl⟩:=ry; exact PySem.W.eq_bytes (bI I q Bw)
  | _=>exact absurd (show false=true from hs) Bool.false_ne_true
 | _=>cases y <;> exact absurd (show false=true from hs) Bool.false_ne_true
theorem yS:OpR X (compareOp .NotEq) rNe:=by
 intro pins s σ H x y v u Q I rx ry h
 obtain ⟨hs,q⟩:=h
 cases x with
 | non =>
  cases rx
  cases y with
  | non=>cases ry; exact PySem.EqNone.ne_none_none (bI I q (by simp))
  | bl j=>cases ry; exact PySem.EqNone.ne_none_bool (bI I q (by simp))
  | int j=>obtain ⟨t',rfl⟩:=ry; exact PySem.EqNone.ne_none_int (bI I q (by simp))
  | str j=>obtain ⟨t',rfl⟩:=ry; exact PySem.EqNone.ne_none_str (bI I q (by simp))
  | _=>exact absurd (show false=true from hs) Bool.false_ne_true
 | bl i =>
  cases rx
  cases y with
  | non=>cases ry; exact PySem.EqNone.ne_bool_none (bI I q (by simp))
  | bl j=>cases ry; exact ne_bool (bI I q (congrArg not Ep))
  | str j=>obtain ⟨t',rfl⟩:=ry; exact PySem.EqMixed.ne_bool_str (bI I q (by simp))
  | _=>exact absurd (show false=true from hs) Bool.false_ne_true
 | int i =>
  obtain ⟨t,rfl⟩:=rx
  cases y with
  | non=>cases ry; exact PySem.EqNone.ne_int_none (bI I q (by simp))
  | int j=>obtain ⟨t',rfl⟩:=ry; exact ne_int (bI I q (congrArg not Cd))
  | str j=>obtain ⟨t',rfl⟩:=ry; exact PySem.EqMixed.ne_int_str (bI I q (by simp))
  | _=>exact absurd (show false=true from hs) Bool.false_ne_true
 | str i =>
  obtain ⟨t,rfl⟩:=rx
  cases y with
  | non=>cases ry; exact PySem.EqNone.ne_str_none (bI I q (by simp))
  | bl j=>cases ry; exact PySem.EqMixed.ne_str_bool (bI I q (by simp))
  | int j=>obtain ⟨t',rfl⟩:=ry; exact PySem.EqMixed.ne_str_int (bI I q (by simp))
  | str j=>obtain ⟨t',rfl⟩:=ry; exact ne_str (bI I q (congrArg not Bm))
  | _=>exact absurd (show false=true from hs) Bool.false_ne_true
 | byt i =>
  obtain ⟨t,rfl⟩:=rx
  cases y with
  | byt j=>obtain ⟨t',rfl⟩:=ry; exact PySem.W.ne_bytes (bI I q (congrArg not Bw))
  | _=>exact absurd (show false=true from hs) Bool.false_ne_true
 | _=>cases y <;> exact absurd (show false=true from hs) Bool.false_ne_true
theorem ji:OpR X (compareOp .Lt) (rI0 fun i j=>.bl (decide (i < j))):=GD fun _ _ _ _ _ _ _ q=>lt_int q
theorem dU:OpR X (compareOp .LtE) (rI0 fun i j=>.bl (decide (i≤j))):=GD fun _ _ _ _ _ _ _ q=>le_int q
theorem dF:OpR X (compareOp .Gt) (rI0 fun i j=>.bl (decide (j < i))):=GD fun _ _ _ _ _ _ _ q=>gt_int q
theorem xn:OpR X (compareOp .GtE) (rI0 fun i j=>.bl (decide (j≤i))):=GD fun _ _ _ _ _ _ _ q=>ge_int q
theorem aM (b:Expr) {op:CmpOp} (h:op ≠ .In:=by decide) (h2:op ≠ .NotIn:=by decide):behindInMarks op b=false:=by
 have e1:(op == CmpOp.In)=false:=by cases op <;> first | rfl | exact absurd rfl h
 have e2:(op == CmpOp.NotIn)=false:=by cases op <;> first | rfl | exact absurd rfl h2
 cases b <;> simp [behindInMarks,e1,e2]
theorem eH {op:CmpOp} {r:R2} (ho:OpR X (compareOp op) r) (ha:PE X a ta) (hb:PE X b tb) (hm:behindInMarks op b=false):PE X (.Compare a [op] [b] pos) (tOp r ta tb):=by
 intro pins s σ H Q I h
 exact wpAny_Compare1 (Jg ha hb I h fun v u s2 x y H2 I2 rx ry q=>ho pins s2 σ H2 x y v u Q I2 rx ry q) hm
def Ef (t:TE):TT:=fun σ H Q=>t σ H fun x H' => ∃ k,x=.bl k∧Q k H'
theorem aK {op:CmpOp} {r:R2} (ho:OpR X (compareOp op) r) (ha:PE X a ta) (hb:PE X b tb) (hm:behindInMarks op b=false):PT X (.Compare a [op] [b] pos) (Ef (tOp r ta tb)):=by
 intro pins s σ H Q I h
 refine wpAny_isTrue_Compare1 (thn (ha pins s σ H _ I h) fun v s1 ⟨x,H1,I1,r1,q1⟩=>thn (hb pins s1 σ H1 _ I1 q1) fun u s2 ⟨y,H2,I2,r2,q2⟩ =>
  thn (ho pins s2 σ H2 x y v u _ I2 r1 r2 q2) fun c s3 ⟨z,H3,I3,r3,k,e,q3⟩=>?_) hm
 subst e
 cases r3
 exact wpAny_truthy_bool ⟨H3,I3,q3⟩
def FQ (r r':R2) (ta tb tc:TE):TE:=fun σ H Q=>ta σ H fun x H1=>tb σ H1 fun y H2=>r x y H2 fun z H3 => ∃ k,z=.bl k ∧
 (if k=true then tc σ H3 fun w' H4=>r' y w' H4 Q else Q (.bl false) H3)
theorem El {op op':CmpOp} {r r':R2} (ho:OpR X (compareOp op) r) (ho':OpR X (compareOp op') r') (ha:PE X a ta) (hb:PE X b tb) (hc:PE X c tc)
  (hm:lastMarks [op,op'] [b,c]=false:=by with_unfolding_all rfl):PE X (.Compare a [op,op'] [b,c] pos) (FQ r r' ta tb tc):=by
 intro pins s σ H Q I h
 refine Compare_chain (thn (ha pins s σ H _ I h) fun v s1 ⟨x,H1,I1,r1,q1⟩=>chain_link (thn (hb pins s1 σ H1 _ I1 q1) fun u s2 ⟨y,H2,I2,r2,q2⟩ =>
  thn (ho pins s2 σ H2 x y v u _ I2 r1 r2 q2) fun d s3 ⟨z,H3,I3,r3,k,e,q3⟩=>?_)) hm
 subst e
 cases r3
 refine wpAny_truthy_bool ?_
 cases k with
 | false=>exact ite_ff ⟨.bl false,H3,I3,rfl,q3⟩
 | true=>exact ite_tt (chain_last (thn (hc pins s3 σ H3 _ I3 q3) fun w' s4 ⟨z',H4,I4,r4,q4⟩=>ho' pins s4 σ H4 y z' u w' Q I4 r2 r4 q4))
theorem t8 {op op':CmpOp} {r r':R2} (ho:OpR X (compareOp op) r) (ho':OpR X (compareOp op') r') (ha:PE X a ta) (hb:PE X b tb) (hc:PE X c tc)
  (hm:lastMarks [op,op'] [b,c]=false:=by with_unfolding_all rfl):PT X (.Compare a [op,op'] [b,c] pos) (Ef (FQ r r' ta tb tc)):=by
 intro pins s σ H Q I h
 refine isTrue_chain (thn (ha pins s σ H _ I h) fun v s1 ⟨x,H1,I1,r1,q1⟩=>test_link (thn (hb pins s1 σ H1 _ I1 q1) fun u s2 ⟨y,H2,I2,r2,q2⟩ =>
  thn (ho pins s2 σ H2 x y v u _ I2 r1 r2 q2) fun d s3 ⟨z,H3,I3,r3,k,e,q3⟩=>?_)) hm
 subst e
 cases r3
 refine wpAny_truthy_bool ?_
 cases k with
 | false =>
  obtain ⟨k',e',q'⟩:=q3
  cases e'
  exact ite_ff ⟨H3,I3,q'⟩
 | true =>
  refine ite_tt (test_last (thn (hc pins s3 σ H3 _ I3 q3) fun w' s4 ⟨z',H4,I4,r4,q4⟩=>thn (ho' pins s4 σ H4 y z' u w' _ I4 r2 r4 q4) fun d' s5 ⟨z2,H5,I5,r5,k2,e2,q5⟩=>?_))
  subst e2
  cases r5
  exact wpAny_truthy_bool ⟨H5,I5,q5⟩
theorem v4:(sizeLine:Nat) < 2 ^ 63:=by rw [sizeLine_eq]; decide
theorem vals1 {x:V} {us:List Value} (r:Vals [x] us) : ∃ u,us=[u]∧RelV x u:=by
 cases r with
 | cons r1 r2=>cases r2; exact ⟨_,rfl,r1⟩
theorem vals2 {x y:V} {us:List Value} (r:Vals [x,y] us) : ∃ u w',us=[u,w']∧RelV x u∧RelV y w':=by
 cases r with
 | cons r1 r2 =>
  cases r2 with
  | cons r3 r4=>cases r4; exact ⟨_,_,rfl,r1,r3⟩
theorem vm (hc:X.calm=true):jj X (.builtin "max") (fun xs H Q => ∃ i j,xs=[.int i,.int j]∧Q (.int (if j > i then j else i)) H):=by
 intro pins s σ H xs us Q I r h
 obtain ⟨i,j,rfl,q⟩:=h
 obtain ⟨u,w',rfl,⟨t,rfl⟩,⟨t',rfl⟩⟩:=vals2 r
 refine max_two_ints (I.ok.hd hc) fun h' tk k=>⟨_,H,I.kept k,?_,q⟩
 by_cases hj:j > i
 ·rw [if_pos hj,if_pos hj]; exact ⟨_,rfl⟩
 ·rw [if_neg hj,if_neg hj]; exact ⟨_,rfl⟩
theorem pP (hc:X.calm=true):jj X (.builtin "min") (fun xs H Q => ∃ i j,xs=[.int i,.int j]∧Q (.int (if j < i then j else i)) H):=by
 intro pins s σ H xs us Q I r h
 obtain ⟨i,j,rfl,q⟩:=h
 obtain ⟨u,w',rfl,⟨t,rfl⟩,⟨t',rfl⟩⟩:=vals2 r
 refine min_two_ints (I.ok.hd hc) fun h' tk k=>⟨_,H,I.kept k,?_,q⟩
 by_cases hj:j < i
 ·rw [if_pos hj,if_pos hj]; exact ⟨_,rfl⟩
 ·rw [if_neg hj,if_neg hj]; exact ⟨_,rfl⟩
theorem pB:jj X (.type "int") (fun xs H Q=>(∃ i,xs=[.int i]∧Q (.int i) H) ∨ ∃ k,xs=[.bl k]∧Q (.int (if k then 1 else 0)) H):=by
 intro pins s σ H xs us Q I r h
 rcases h with ⟨i,rfl,q⟩ | ⟨k,rfl,q⟩
 ·obtain ⟨u,rfl,t,rfl⟩:=vals1 r
  exact call_int_int ⟨.int i,H,I,⟨_,rfl⟩,q⟩
 ·obtain ⟨u,rfl,r1⟩:=vals1 r
  cases r1
  exact call_int_bool ⟨.int (if k then 1 else 0),H,I.tok _,⟨_,rfl⟩,q⟩
end
end L2
namespace L2
open PySem PySem.Spec PyProof.Rows
structure HB (h:Heap) (x dx C:Addr) (mA:Str→Option Value):Prop where
 obj:h.get? x=some (PySem.W.instObj C dx)
 ns:h.Ns1 dx mA
 ne:dx ≠ x
theorem Cq {h:Heap} {dx:Addr} {mA:Str→Option Value} (n:h.Ns1 dx mA) : ∃ od,h.get? dx=some od ∧ ∀ name,PySem.W.lookIn name od=some (mA name):=by
 obtain ⟨o,es,ep,ho,hd,hk,_,hm⟩:=n
 refine ⟨o,ho,fun name=>?_⟩
 have e:=hm name
 unfold nsFind findBy at e
 rw [← Array.find?_toList] at e
 unfold PySem.W.lookIn
 rw [hd]
 dsimp only
 split
 ·rename_i y q
  rw [q] at e
  exact congrArg some e
 ·rename_i q
  rw [q] at e
  have a:es.toList.any (·.refKey)=false:=by
   rw [List.any_eq_false]
   intro y hy
   obtain ⟨z,t,hkey⟩:=hk y (Array.mem_toList_iff.mp hy)
   simp [DictEntry.refKey,hkey]
  have a' : ¬ es.toList.any (·.refKey)=true:=by rw [a]; exact Bool.false_ne_true
  rw [if_neg a']
  exact congrArg some e
theorem HB.look {h:Heap} {x dx C:Addr} {mA:Str→Option Value} (I:HB h x dx C mA) : ∃ od,PySem.W.InstAt h x (PySem.W.instObj C dx) C (some od) ∧ ∀ name,PySem.W.lookIn name od=some (mA name) :=
 let ⟨od,ho,hl⟩:=Cq I.ns
 ⟨od,⟨I.obj,rfl,rfl,ho⟩,hl⟩
section
variable {prog:Program} {w:World} {A:Around} {E:Value→Shared→Prop} {s:Shared} {K:PySem.W.Frag} {x dx C f:Addr} {mA:Str→Option Value} {name:Str} {v:Value}
end
section
variable {P:Program} {w:World} {H H':Hp} {h h':Heap} {a C dx:Addr} {fs fs':List (Str × V)}
theorem G6 (hok:HOk P w H h) (e:H a=some (.ins C dx fs)) : ∃ mA,HB h a dx C mA∧(∀ f,HX (fs.lookup f) (mA f))∧PySem.Within mA (fs.map (·.1))∧fs.length≤1000∧H dx=some (.own a):=by
 obtain ⟨d,z,ne,ob,mA,n,r,q⟩:=(show cD P w H h a (.ins C dx fs) from hok a _ e)
 exact ⟨mA,⟨ob,n,ne⟩,r,q,z,d⟩
end
structure Cls (K:PySem.W.Frag) (C:Addr):Prop where
 pg:PySem.W.plainGet K C Str.empty=true
 hd:PySem.W.hasDictIn K C=true
 po:PySem.W.plainOver K C=true
 sa:PySem.W.findIn K (.ref C) "__setattr__" = some (some (.builtin "object.__setattr__"))
theorem Cls.get {K:PySem.W.Frag} {C:Addr} (c:Cls K C) (f:Str):PySem.W.plainGet K C f=true:=c.pg
section
variable {X:Cx} {pins:List (Addr × Obj)} {σ:St} {H:Hp} {s:Shared} {a C dx:Addr} {fs:List (Str × V)} {f:Str} {v:V} {A:Around} {E:Value→Shared→Prop}
end
section
variable {X:Cx} {o e value:Expr} {f:Str} {pos pos' tpos:Pos} {ta tv:TE}
end
section
variable {X:Cx} {pins:List (Addr × Obj)} {σ:St} {H:Hp} {s:Shared} {A:Around} {E:Value→Shared→Prop} {Q:Value→Shared→Prop} {c:Value} {b:Bool}
inductive oR (K:PySem.W.Frag) (H:Hp):V→Value→Prop where
 | non:oR K H .non (.type "NoneType")
 | bl (x:Bool):oR K H (.bl x) (.type "bool")
 | int (i:Int):oR K H (.int i) (.type "int")
 | str (x:Str):oR K H (.str x) (.type "str")
 | flt (x:UInt64):oR K H (.flt x) (.type "float")
 | lst {a:Addr} {xs:List V} (e:H a=some (.lst xs)):oR K H (.ref a) (.type "list")
 | frz {a:Addr} {o:Obj} {xs:List V} (e:H a=some (.frz o (.lst xs))):oR K H (.ref a) (.type "list")
 | tup {a:Addr} {xs:List V} (e:H a=some (.tup xs)):oR K H (.ref a) (.type "tuple")
 | dK {a:Addr} {kvs:List (Key × V)} (e:H a=some (.dK kvs)):oR K H (.ref a) (.type "dict")
 | dT {a:Addr} {kvs:List (List Key × V)} (e:H a=some (.dT kvs)):oR K H (.ref a) (.type "dict")
 | ins {a C dx:Addr} {fs:List (Str × V)} (e:H a=some (.ins C dx fs)) (cl:Cls K C) (ha:PySem.W.findIn K (.ref C) "__class__" = some (some (.builtin "object.__class__")))
   (hn:PySem.W.specialIn K (.builtin "object.__class__") "__get__" = some (some (.builtin "getset_descriptor.__get__"))) (htk:PySem.W.takesIn K (.builtin "object.__class__")=some true)
   (hm:PySem.W.mroIn K C (.type "object")=some true):oR K H (.ref a) (.ref C)
theorem Dm {x:V} {u t:Value} (I:Inv X pins σ H s) (rx:RelV x u) (ty:oR X.K H x t) (e:PySem.W.kitOne X.K t c=some b) (h : ∀ tk,Q (.bool b) { s with toks:=tk }) :
  wpAny (model X.prog X.w) A (call (.builtin "isinstance") [u,c]) Q E s:=by
 cases ty with
 | non=>cases (show u=Value.none from rx); exact PySem.W.kia_one PySem.W.kitx_none I.kIn True.intro e (fun z=>nomatch z) h
 | bl y=>cases (show u=Value.bool y from rx); exact PySem.W.kia_one PySem.W.kitx_bool I.kIn True.intro e (fun z=>nomatch z) h
 | int i=>obtain ⟨t,q⟩:=(show ∃ t,u=Value.int i t from rx); cases q; exact PySem.W.kia_one PySem.W.kitx_int I.kIn True.intro e (fun z=>nomatch z) h
 | str y=>obtain ⟨t,q⟩:=(show ∃ t,u=Value.str y t from rx); cases q; exact PySem.W.kia_one PySem.W.kitx_str I.kIn True.intro e (fun z=>nomatch z) h
 | flt y=>obtain ⟨t,q⟩:=(show ∃ t,u=Value.float y t from rx); cases q; exact PySem.W.kia_one PySem.W.kitx_float I.kIn True.intro e (fun z=>nomatch z) h
 | @lst a xs ea =>
  cases (show u=Value.ref a from rx)
  obtain ⟨_,_,n,_,h1⟩:=(show cD X.prog X.w H s.heap a (.lst xs) from I.hok a _ ea)
  exact PySem.W.kia_one PySem.W.kitx_list I.kIn ⟨_,h1,rfl⟩ e (fun z=>nomatch z) h
 | @frz a ob xs ea =>
  cases (show u=Value.ref a from rx)
  obtain ⟨_,_,_,n,_,h1⟩:=(show cD X.prog X.w H s.heap a (.frz ob (.lst xs)) from I.hok a _ ea)
  exact PySem.W.kia_one PySem.W.kitx_list I.kIn ⟨_,h1,rfl⟩ e (fun z=>nomatch z) h
 | @tup a xs ea =>
  cases (show u=Value.ref a from rx)
  obtain ⟨_,_,_,p⟩:=(show cD X.prog X.w H s.heap a (.tup xs) from I.hok a _ ea)
  obtain ⟨o,h1,h2,_⟩:=p
  exact PySem.W.kia_one PySem.W.kitx_tuple I.kIn ⟨o,h1,h2⟩ e (fun z=>nomatch z) h
 | @dK a kvs ea =>
  cases (show u=Value.ref a from rx)
  obtain ⟨_,_,vs,_,p⟩:=(show cD X.prog X.w H s.heap a (.dK kvs) from I.hok a _ ea)
  obtain ⟨o,es,ep,h1,h2,_⟩:=p
  exact PySem.W.kia_one PySem.W.kitx_dict I.kIn ⟨o,h1,h2.1⟩ e (fun z=>nomatch z) h
 | @dT a kvs ea =>
  cases (show u=Value.ref a from rx)
  obtain ⟨_,_,xs,_,o,es,ep,h1,h2,_⟩:=(show cD X.prog X.w H s.heap a (.dT kvs) from I.hok a _ ea)
  exact PySem.W.kia_one PySem.W.kitx_dict I.kIn ⟨o,h1,h2.1⟩ e (fun z=>nomatch z) h
 | @ins a C dx fs ea cl ha hn htk hm =>
  cases (show u=Value.ref a from rx)
  obtain ⟨mA,O,_⟩:=G6 I.hok ea
  obtain ⟨od,J,_⟩:=O.look
  exact PySem.W.kia_one (PySem.W.kitx_own (cl.get _) cl.hd ha hn htk hm) I.kIn J e (fun z=>nomatch z) h
end
end L2
namespace L2
open PySem PySem.Spec PyProof.Rows
structure dN (k:Nat) (A:Around):Prop where
 hd:A.handled=none
 dp:A.depth + 3 * k + 5 < recursionLimit
 un:A.units + 16 * k + 200 < cLine
theorem dN.mono {j k:Nat} {A:Around} (r:dN k A) (h:j≤k):dN j A:=⟨r.hd,by have:=r.dp; omega,by have:=r.un; omega⟩
theorem dN.deeper {k:Nat} {A:Around} (r:dN (k + 1) A) (env:Env):dN k (A.deeper env) :=
 ⟨r.hd,by have:=r.dp; show A.depth + 1 + 3 * k + 5 < _; omega,by have:=r.un; show A.units + 3 + 16 * k + 200 < _; omega⟩
theorem dN.depth {k:Nat} {A:Around} (r:dN k A):A.depth < recursionLimit:=by have:=r.dp; omega
theorem dN.units {k:Nat} {A:Around} (r:dN k A):A.units + 64 < cLine:=by have:=r.un; omega
def Jm:TA:=fun _ H Q=>Q [] H
def Ho (ta:TE) (tr:TA):TA:=fun σ H Q=>ta σ H fun x H1=>tr σ H1 fun xs H2=>Q (x :: xs) H2
section
variable {X:Cx} {e:Expr} {es:List Expr} {te:TE} {t:TA} {pos:Pos}
theorem ao:PA X [] Jm:=fun _ _ _ _ H Q I h=>Calls.spliced_nil ⟨[],H,I,.nil,h⟩
theorem aa (ha:PE X e te) (hr:PA X es t) (hs:starEach (e :: es) X.env=(false,eval e X.env) :: starEach es X.env:=by rfl):PA X (e :: es) (Ho te t):=by
 intro pos pins s σ H Q I h
 rw [hs]
 show wpAny _ _ (spliced ((false,eval e X.env) :: backTo pos (starEach es X.env))) _ _ s
 refine Calls.spliced_cons (thn (ha pins s σ H _ I h) fun u s1 ⟨x,H1,I1,r1,q1⟩=>?_)
 exact thn (hr pos pins s1 σ H1 _ I1 q1) fun us s2 ⟨xs,H2,I2,r2,q2⟩=>⟨x :: xs,H2,I2,.cons r1 r2,q2⟩
def JW (t:TA):TE:=fun σ H Q=>t σ H fun xs H1=>xs.length≤sizeLine ∧ ∀ p,H1 p=none→Q (.ref p) (upd H1 p (.tup xs))
def JQ (t:TA):TE:=fun σ H Q=>t σ H fun xs H1=>xs.length≤sizeLine ∧ ∀ p,H1 p=none→Q (.ref p) (upd H1 p (.lst xs))
theorem mK {x1} (h:PA X es t):PE X (.Tuple es x1 pos) (JW t):=by
 intro pins s σ H Q I hq
 refine wpAny_Tuple_spliced (thn (h pos pins s σ H _ I hq) fun us s1 ⟨xs,H1,I1,r,z,q⟩=>⟨by rw [← r.length]; exact z,?_⟩)
 have hf:H1 s1.heap.objs.size=none:=I1.hok.fresh (Nat.le_refl _)
 refine ⟨.ref s1.heap.objs.size,upd H1 s1.heap.objs.size (.tup xs),I1.laid (t':=s1.toks) (fun b u e=>Heap.get?_push_of_some _ e) (Nat.le_refl _) ?_,rfl,q _ hf⟩
 exact ⟨z,us,r,⟨_,Heap.get?_push_size _ rfl,rfl,_,rfl⟩⟩
theorem bT (h:PA X es t):PE X (.List es pos) (JQ t):=by
 intro pins s σ H Q I hq
 refine wpAny_List_spliced (thn (h pos pins s σ H _ I hq) fun us s1 ⟨xs,H1,I1,r,z,q⟩=>⟨by rw [← r.length]; exact z,?_⟩)
 have hf:H1 s1.heap.objs.size=none:=I1.hok.fresh (Nat.le_refl _)
 refine ⟨.ref s1.heap.objs.size,upd H1 s1.heap.objs.size (.lst xs),I1.laid (t':=s1.toks) (fun b u e=>Heap.get?_push_of_some _ e) (Nat.le_refl _) ?_,rfl,q _ hf⟩
 exact ⟨z,us,0,r,Heap.get?_push_size _ rfl⟩
end
abbrev Sp:=List V→Hp→VK→XK→Prop
abbrev CXT:=List Env→Hp→Shared→XK→Value→Shared→Prop
structure Bf (P:Program) (w:World) (K:PySem.W.Frag) (mg:Str→Option Value) (base:Heap) (A:Around) (outer:List Env) (s:Shared) (H:Hp):Prop where
 frames:A.frames=some outer
 mod:Mod K mg base
 bs : ∀ b o,base.get? b=some o→s.heap.get? b=some o∧H b=none
 bsz:base.objs.size≤s.heap.objs.size
 funs:s.heap.FunFrames base outer
 frf : ∀ b∈frs outer,H b=none
 hok:HOk P w H s.heap
 bare:AllBare s.gens
def CE (outer:List Env) (P:Program) (w:World) (H:Hp) (s:Shared) (Q:VK) (u:Value) (s':Shared):Prop :=
 ∃ v H',s'.os=s.os∧AllBare s'.gens∧Un (frs outer) [] H H' s.heap s'.heap∧HOk P w H' s'.heap∧RelV v u∧Q v H'
def CR (CX:CXT) (outer:List Env) (P:Program) (w:World) (H:Hp) (s:Shared) (Q:VK) (E:XK) (r:Result) (s':Shared):Prop :=
 match r with
 | .ok (.ret u)=>CE outer P w H s Q u s'
 | .ok _=>False
 | .error e=>CX outer H s E e s'
structure aX (P:Program) (w:World) (K:PySem.W.Frag) (mg:Str→Option Value) (base:Heap) (CX:CXT) (k:Nat) (f:Addr) (fd:FuncData) (ps:List Str) (sp:Sp):Prop where
 len : ∀ vs H Q E,sp vs H Q E→vs.length=ps.length
 run : ∀ (A:Around) (outer:List Env) (s:Shared) (H:Hp) (args:Args) (us:List Value) (vs:List V) (Q:VK) (E:XK),dN k A→Bf P w K mg base A outer s H→BindsTo s fd args (ps.zip us)→Vals vs us→sp vs H Q E →
  codeAny (model P w) A (.call (.ref f) args) (CR CX outer P w H s Q E) s
theorem aX.mono {P:Program} {w:World} {K:PySem.W.Frag} {mg:Str→Option Value} {base:Heap} {CX:CXT} {j k:Nat} {f:Addr} {fd:FuncData} {ps:List Str} {sp:Sp} (F:aX P w K mg base CX j f fd ps sp) (h:j≤k) :
  aX P w K mg base CX k f fd ps sp:=⟨F.len,fun A outer s H args us vs Q E hr=>F.run A outer s H args us vs Q E (hr.mono h)⟩
section
variable {X:Cx} {pins:List (Addr × Obj)} {σ:St} {H:Hp} {s s':Shared}
theorem Inv.env0 (I:Inv X pins σ H s):Bf X.prog X.w X.K X.mg X.base X.A X.stack s H :=
 ⟨I.ok.frames,I.ok.mod,I.bs,Nat.le_trans I.ok.bsz I.sz,I.stack,I.stkFree,I.hok,I.bare⟩
theorem Inv.after {Q:VK} {u:Value} (I:Inv X pins σ H s) (h:CE X.stack X.prog X.w H s Q u s'):EP X pins σ Q u s':=by
 obtain ⟨v,H',os,bare,un,hok,r,q⟩:=h
 obtain ⟨hh,g,d,t,os'⟩:=s'
 obtain rfl:os'=s.os:=os
 exact ⟨v,H',I.call (h':=hh) (g':=g) (d':=d) (t':=t) (ch:=[]) un hok bare (fun b z=>absurd z (by simp)),r,q⟩
end
def Hb (sp:Sp) (dvs:List V) (E:XK) (t:TA):TE:=fun σ H Q=>t σ H fun vs H1=>sp (vs ++ dvs) H1 Q E
def Binds (K:PySem.W.Frag) (fd:FuncData) (ps:List Str) (ds:List Value):Prop :=
 ∀ (s:Shared) (us:List Value),K.In s.heap→(us ++ ds).length=ps.length→BindsTo s fd ⟨us,[]⟩ (ps.zip (us ++ ds))
theorem Binds.all {K:PySem.W.Frag} {fd:FuncData} {ps:List Str} (h : ∀ us:List Value,us.length=ps.length→bindArgs fd ⟨us,[]⟩=pure (ps.zip us)):Binds K fd ps []:=fun s us _ hl=>by
 rw [List.append_nil] at hl ⊢
 exact .of_eq (h us hl)
def mH (CX:CXT) (X:Cx) (E:XK):Prop := ∀ (pins:List (Addr × Obj)) (σ:St) (H:Hp) (s:Shared) (e:Value) (s':Shared),Inv X pins σ H s→CX X.stack H s E e s'→X.xe e s'
section
variable {X:Cx} {CX:CXT} {k:Nat} {f C:Addr} {fd:FuncData} {ps:List Str} {sp:Sp} {dvs:List V} {ds:List Value} {E:XK} {x m:Str} {p pos apos:Pos} {e o:Expr} {es:List Expr} {ta:TE} {t:TA}
theorem Ge {pins:List (Addr × Obj)} {σ:St} {H:Hp} {s:Shared} {Q:VK} {us:List Value} {vs:List V} (F:aX X.prog X.w X.K X.mg X.base CX k f fd ps sp) (hr:dN k X.A) (hb:Binds X.K fd ps ds) (hd:Vals dvs ds) (hx:mH CX X E)
  (I:Inv X pins σ H s) (r:Vals vs us) (h:sp (vs ++ dvs) H Q E):wpAny (model X.prog X.w) X.A (call (.ref f) us) (EP X pins σ Q) X.xe s:=by
 have r2:Vals (vs ++ dvs) (us ++ ds):=r.append hd
 have hl:(us ++ ds).length=ps.length:=by rw [← r2.length]; exact F.len _ _ _ _ h
 refine wpAny_call (codeAny_mono (F.run X.A X.stack s H ⟨us,[]⟩ (us ++ ds) (vs ++ dvs) Q E hr I.env0 (hb s us I.kIn hl) r2 h) fun r s' hq=>?_)
 cases r with
 | error e=>exact hx pins σ H s e s' I hq
 | ok fl =>
  cases fl with
  | ret u=>exact I.after hq
  | next=>exact False.elim hq
  | brk=>exact False.elim hq
  | cont=>exact False.elim hq
theorem G5 (F:aX X.prog X.w X.K X.mg X.base CX k f fd ps sp) (hr:dN k X.A) (hg:Gl X x) (hm:X.mg x=some (.ref f)) (hk:PySem.W.keepIn X.K (.ref f)=true) (hb:Binds X.K fd ps ds) (hd:Vals dvs ds) (hx:mH CX X E)
  (ha:PA X (e :: es) t) (hdb:(x == ("__debug__" : Str))=false:=by decide) (he:starEach (e :: es) X.env=(false,eval e X.env) :: starEach es X.env:=by rfl) (hpl:(backTo pos (starEach es X.env)).any (·.1)=false:=by rfl) :
  PE X (.Call (.Name x p) (e :: es) [] pos) (Hb sp dvs E t):=by
 intro pins s σ H Q I h
 refine wpAny_Call_Name_kw (qW I hg hm ?_ hdb)
 refine PySem.W.callWith_K (h₀:=X.base) I.ok.mod.kin hk (thn (ha pos pins s σ H _ I h) fun us s1 ⟨vs,H1,I1,r,q⟩=>⟨I1.kIn,?_⟩) he hpl
 exact Ge F hr hb hd hx I1 r q
end
section
variable {X:Cx} {CX:CXT} {k:Nat} {f C:Addr} {fd:FuncData} {ps ks:List Str} {sp:Sp} {E:XK} {x m:Str} {p pos apos kpos:Pos} {e o:Expr} {es:List Expr} {kws:List Keyword} {te ta:TE} {t tk:TA} {nm:Option Str}
variable {g:List Value→List Value→List Value} {gV:List V→List V→List V}
end
structure aC (N P:List Str) (sc:Scope):Prop where
 kind:sc.kind=.function
 co:sc.isCoroutine=false
 gen:sc.isGenerator=false
 nd:N.Nodup
 pre:N.take P.length=P
 par : ∀ x∈P,sc.names.lookup x=some .local∨sc.names.lookup x=some .cell
 nofree : ∀ y∈sc.names,y.2 ≠ .free
theorem vJ {kindOf:Str→Option NameKind} {x:Str} : ∀ {binds:List (Str × Value)} {m:Str→Option Value},(∀ v,(x,v) ∉ binds)→bindL kindOf binds m x=m x
 | [],_,_=>rfl
 | (n,v) :: r,m,h=>by
  unfold bindL
  rw [vJ fun w hw=>h w (List.mem_cons_of_mem _ hw)]
  split
  ·have:x ≠ n:=by rintro rfl; exact h v List.mem_cons_self
   simp [this]
  ·rfl
theorem uY {kindOf:Str→Option NameKind} {x:Str} : ∀ {binds:List (Str × Value)} {m:Str→Option Value},(∀ v,(x,v) ∉ binds)→bindC kindOf binds m x=m x
 | [],_,_=>rfl
 | (n,v) :: r,m,h=>by
  unfold bindC
  rw [uY fun w hw=>h w (List.mem_cons_of_mem _ hw)]
  split
  ·rfl
  ·have:x ≠ n:=by rintro rfl; exact h v List.mem_cons_self
   simp [this]
theorem vD {kindOf:Str→Option NameKind} {x:Str} {v:Value} : ∀ {P:List Str} {vs:List Value} {i:Nat} {m:Str→Option Value},P.Nodup→P[i]?=some x→vs[i]?=some v→kindOf x=some .local →
  bindL kindOf (P.zip vs) m x=some v
 | [],_,_,_,_,h,_,_=>by simp at h
 | _ :: _,[],_,_,_,_,h,_=>by simp at h
 | p :: P,w :: vs,0,m,nd,h1,h2,hk=>by
  simp at h1 h2; subst h1; subst h2
  show bindL kindOf ((p,w) :: P.zip vs) m p=_
  unfold bindL
  rw [vJ fun v hv=>(List.nodup_cons.mp nd).1 (List.of_mem_zip hv).1,if_pos hk]
  simp
 | p :: P,w :: vs,i + 1,m,nd,h1,h2,hk=>by
  show bindL kindOf ((p,w) :: P.zip vs) m x=_
  unfold bindL
  exact vD (i:=i) (List.nodup_cons.mp nd).2 (by simpa using h1) (by simpa using h2) hk
theorem vd {kindOf:Str→Option NameKind} {x:Str} {v:Value} : ∀ {P:List Str} {vs:List Value} {i:Nat} {m:Str→Option Value},P.Nodup→P[i]?=some x→vs[i]?=some v→kindOf x ≠ some .local →
  bindC kindOf (P.zip vs) m x=some v
 | [],_,_,_,_,h,_,_=>by simp at h
 | _ :: _,[],_,_,_,_,h,_=>by simp at h
 | p :: P,w :: vs,0,m,nd,h1,h2,hk=>by
  simp at h1 h2; subst h1; subst h2
  show bindC kindOf ((p,w) :: P.zip vs) m p=_
  unfold bindC
  rw [uY fun v hv=>(List.nodup_cons.mp nd).1 (List.of_mem_zip hv).1,if_neg hk]
  simp
 | p :: P,w :: vs,i + 1,m,nd,h1,h2,hk=>by
  show bindC kindOf ((p,w) :: P.zip vs) m x=_
  unfold bindC
  exact vd (i:=i) (List.nodup_cons.mp nd).2 (by simpa using h1) (by simpa using h2) hk
def start (N:List Str) (vs:List V):St:=vs.map some ++ List.replicate (N.length - vs.length) none
def gj (CX:CXT) (P:Program) (w:World) (K:PySem.W.Frag) (mg:Str→Option Value) (base:Heap) (N:List Str) (qual:Str) (scope:Scope) (f:Addr) (cd:Value) (A:Around) (outer:List Env) (s:Shared) (H:Hp) (E:XK):Cx where
 prog:=P
 w:=w
 K:=K
 mg:=mg
 base:=base
 A:=A.deeper (envOfC qual scope s.heap.objs.size f cd)
 N:=N
 s₀:=s
 H₀:=H
 env:=envOfC qual scope s.heap.objs.size f cd
 outer:=outer
 stack:=envOfC qual scope s.heap.objs.size f cd :: outer
 ex:=[]
 calm:=true
 fn:=fun _=>true
 pn:=[]
 xe:=fun e s'=>wpAny (model P w) (A.deeper (envOfC qual scope s.heap.objs.size f cd)) (leaving (envOfC qual scope s.heap.objs.size f cd) e) (fun _ s''=>CX outer H s E e s'') (fun e' s''=>CX outer H s E e' s'') s'
theorem xM {sc:Scope} {n:Nat} {x:Str} (h:sc.names.lookup x=some .cell) : ∃ c,(cellsFrom n sc.names []).lookup x=some c:=by
 have q:=PySem.W.cellsFrom_some sc.names n [] (.inl h)
 exact Option.isSome_iff_exists.mp q
theorem uW {CX:CXT} {P:Program} {w:World} {K:PySem.W.Frag} {mg:Str→Option Value} {base:Heap} {N ps:List Str} {qual:Str} {scope:Scope} {f:Addr} {cd:Value} {A:Around} {outer:List Env} {s s1:Shared} {H:Hp} {E:XK} {us:List Value} {vs:List V}
  (S:aC N ps scope) (hd:A.handled=none) (e0:Bf P w K mg base A outer s H) (hl:vs.length=ps.length) (r:Vals vs us)
  (x:InCallC s s.heap.objs.size (bindL (envOfC qual scope s.heap.objs.size f cd).kindOf (ps.zip us) fun _=>none) (cellsFrom (s.heap.objs.size + 1) scope.names []) (bindC (envOfC qual scope s.heap.objs.size f cd).kindOf (ps.zip us) fun _=>none) s1) :
  Inv (gj CX P w K mg base N qual scope f cd A outer s H E) [] (start N vs) H s1:=by
 have hpl:ps.length≤N.length:=by have:=congrArg List.length S.pre; rw [List.length_take] at this; omega
 obtain ⟨h1,tk,rfl,hk⟩:=x.done
 have noA : ∀ b:Addr,b ∉ (gj CX P w K mg base N qual scope f cd A outer s H E).ex:=fun b z=>absurd (show b∈([]:List Addr) from z) (by simp)
 refine ⟨⟨e0.mod,S.kind,rfl,rfl,Nat.le_refl _,fun y z c h1 h2=>?_,fun y hy=>?_,fun y c _ h=>?_,fun _=>hd,Around.frames_deeper e0.frames,.inr ⟨rfl,rfl⟩,fun b z=>absurd z (noA b),e0.bs,e0.bsz,fun b _ _=>noA b,fun b z=>absurd z (noA b),e0.funs,e0.frf⟩,
  rfl,e0.bare,Un.kept hk,⟨_,x.toInCall.ns,fun i y v h1 h2 h3=>?_⟩,fun y c h=>⟨_,x.cell y c h⟩,e0.hok.fresh (Nat.le_refl _),fun y c h=>?_,fun p hp=>absurd (show p∈([]:List (Addr × Obj)) from hp) (by simp),e0.hok.kept hk,?_⟩
 ·exact name_of_addr x.apart (PySem.mem_of_lookup h1) (PySem.mem_of_lookup h2)
 ·have hy:scope.names.lookup y=some .cell∨scope.names.lookup y=some .free:=hy
  rcases hy with hy | hy
  ·exact xM hy
  ·exact absurd rfl (S.nofree _ (PySem.mem_of_lookup hy))
 ·exact Nat.le_of_lt (x.above y c (PySem.mem_of_lookup h))
 ·have hi:i < vs.length:=by
   unfold start at h2
   by_cases hi:i < vs.length
   ·exact hi
   ·rw [List.getElem?_append_right (by simpa using hi)] at h2
    rw [List.getElem?_replicate] at h2
    split at h2 <;> cases h2
  have ha:vs[i]?=some v:=by
   unfold start at h2
   rw [List.getElem?_append_left (by simpa using hi),List.getElem?_map] at h2
   cases e:vs[i]? with
   | none=>rw [e] at h2; cases h2
   | some a=>rw [e] at h2; cases h2; rfl
  obtain ⟨u,hu,rv⟩:=r.get ha
  have hp:ps[i]?=some y:=by
   rw [← S.pre,List.getElem?_take_of_lt (by omega)]; exact h1
  have ndP:ps.Nodup:=by rw [← S.pre]; exact S.nd.sublist (List.take_sublist _ _)
  refine ⟨u,rv,?_⟩
  rcases S.par y (List.mem_of_getElem? hp) with k | k
  ·exact .inl ⟨k,vD ndP hp hu k⟩
  ·obtain ⟨c,e⟩:=xM (n:=s.heap.objs.size + 1) k
   refine .inr ⟨.inl k,c,e,?_⟩
   have q:=x.cell y c e
   rw [vd ndP hp hu (by show scope.names.lookup y ≠ _; rw [k]; decide)] at q
   exact q
 ·exact e0.hok.fresh (Nat.le_of_lt (x.above y c (PySem.mem_of_lookup h)))
 ·unfold start
  show _=N.length
  rw [List.length_append,List.length_map,List.length_replicate]
  omega
theorem Hk {CX:CXT} {P:Program} {w:World} {K:PySem.W.Frag} {mg:Str→Option Value} {base:Heap} {k:Nat} {f:Addr} {name qual:Str} {params:Arguments} {body:List Stmt} {scope:Scope} {dV kV doc pm cdv ct oc:Value} {an od:Option Addr}
  {osl:Array (Option Value)} {N ps:List Str} {sp:Sp} (lk:K.lookup f=some ⟨oc,od,.func (PySem.W.fnOf name qual params body scope dV kV doc pm an cdv ct),osl⟩) (hcd:PySem.W.codeIn K cdv qual=true) (S:aC N ps scope)
  (len : ∀ vs H Q E,sp vs H Q E→vs.length=ps.length)
  (hbody : ∀ (A:Around) (outer:List Env) (s:Shared) (H:Hp) (vs:List V) (Q:VK) (E:XK),dN k (A.deeper (envOfC qual scope s.heap.objs.size f cdv))→sp vs H Q E →
   ∃ t,PSs (gj CX P w K mg base N qual scope f cdv A outer s H E) body t∧t { nx:=fun _ H'=>Q .non H',rt:=Q } (start N vs) H) :
  aX P w K mg base CX (k + 1) f (PySem.W.fnOf name qual params body scope dV kV doc pm an cdv ct) ps sp:=by
 refine ⟨len,fun A outer s H args us vs Q E hr e0 hb r hsp=>?_⟩
 have hl:=len _ _ _ _ hsp
 have KX:K.In s.heap:=e0.mod.kin.keeps fun b o e=>(e0.bs b o e).1
 have lim:s.heap.NoLimit:=e0.mod.nolimit.keeps fun b o e=>(e0.bs b o e).1
 have hkind : ∀ y∈ps.zip us,scope.names.lookup y.1=some .local∨(scope.names.lookup y.1=some .cell∧((cellsFrom (s.heap.objs.size + 1) scope.names []).lookup y.1).isSome=true):=fun ⟨n,v⟩ hy=>by
  rcases S.par n (List.of_mem_zip hy).1 with q | q
  ·exact .inl q
  ·exact .inr ⟨q,PySem.W.cellsFrom_some _ _ _ (.inl q)⟩
 refine codeAny_call_function hr.depth (KX _ _ lk) rfl S.co S.gen rfl (PySem.W.codeRec_of KX hcd) (hb _ _ _ _ ?_)
 refine wpAny_newFunctionEnv_cells S.kind hkind fun env he s1 x=>?_
 subst he
 refine ⟨lim.keeps x.toInCall.keep,codeAny_func ?_⟩
 obtain ⟨t,ht,hq⟩:=hbody A outer s H vs Q E (hr.deeper _) hsp
 have I:Inv (gj CX P w K mg base N qual scope f cdv A outer s H E) [] (start N vs) H s1:=uW S hr.hd e0 hl r x
 refine wpAny_mono (ht [] s1 (start N vs) H _ I hq) (fun fl s' hs=>?_) fun e s' hs=>hs
 have fin : ∀ {σ':St} {H':Hp} {v:V} {u:Value},Inv (gj CX P w K mg base N qual scope f cdv A outer s H E) [] σ' H' s'→RelV v u→Q v H'→CE outer P w H s Q u s' :=
  fun {σ' H' v u} J rv q=>⟨v,H',J.os,J.bare,J.base,J.hok,rv,q⟩
 cases fl with
 | ret u =>
  obtain ⟨v,σ',H',J,rv,q⟩:=hs
  exact fin J rv q
 | next =>
  obtain ⟨σ',H',J,q⟩:=hs
  exact fin (v:=V.non) (u:=Value.none) J rfl q
 | brk =>
  obtain ⟨_,_,_,q⟩:=hs
  exact False.elim q
 | cont =>
  obtain ⟨_,_,_,q⟩:=hs
  exact False.elim q
end L2
namespace L2
open PySem PySem.Spec PyProof.Rows
section
variable {X:Cx} {x:Str} {p pos:Pos} {e:Expr} {es:List Expr} {t:TA} {id T:String} {r:List V→Hp→VK→Prop}
def tCB (r:List V→Hp→VK→Prop) (t:TA):TE:=fun σ H Q=>t σ H fun vs H1=>r vs H1 Q
theorem aY (hc:jj X (.builtin id) r) (hg:Gl X x) (hm:X.mg x=none) (hv:bootBuiltins x=some (.builtin id)) (ha:PA X (e :: es) t) (hn:x ≠ "__name__" := by decide) (hdb:(x == ("__debug__" : Str))=false:=by decide)
  (he:starEach (e :: es) X.env=(false,eval e X.env) :: starEach es X.env:=by rfl) (hpl:(backTo pos (starEach es X.env)).any (·.1)=false:=by rfl):PE X (.Call (.Name x p) (e :: es) [] pos) (tCB r t):=by
 intro pins s σ H Q I h
 refine wpAny_Call_Name_kw (eO I hg hm hv ?_ hn hdb)
 exact PyProof.Rows.callWith_builtin1 (thn (ha pos pins s σ H _ I h) fun us s1 ⟨vs,H1,I1,r1,q1⟩=>hc pins s1 σ H1 vs us Q I1 r1 q1) he hpl
theorem dB (hc:jj X (.type T) r) (hg:Gl X x) (hm:X.mg x=none) (hv:bootBuiltins x=some (.type T)) (ha:PA X (e :: es) t) (hn:x ≠ "__name__" := by decide) (hdb:(x == ("__debug__" : Str))=false:=by decide)
  (he:starEach (e :: es) X.env=(false,eval e X.env) :: starEach es X.env:=by rfl) (hpl:(backTo pos (starEach es X.env)).any (·.1)=false:=by rfl):PE X (.Call (.Name x p) (e :: es) [] pos) (tCB r t):=by
 intro pins s σ H Q I h
 refine wpAny_Call_Name_kw (eO I hg hm hv ?_ hn hdb)
 exact PyProof.Rows.callWith_type1 (thn (ha pos pins s σ H _ I h) fun us s1 ⟨vs,H1,I1,r1,q1⟩=>hc pins s1 σ H1 vs us Q I1 r1 q1) he hpl
end
end L2
namespace HT
open PySem PyProof.Rows
section
open PySem.SeqAt
open PySem.AutoSeq1 (wpAny_loadPart')
open PySem.MeetsSeq PySem.MeetsSeq2 PySem.MeetsSeq3
end
section
variable {prog:Program} {w:World} {A:Around} {E:Value→Shared→Prop} {s:Shared}
def sIx (n d:Nat):Option Int→Nat
 | none=>d
 | some v=>if v < 0 then (v + (n:Int)).toNat else min v.toNat n
theorem yL (n d:Nat):sIx n d none=d:=rfl
theorem jn (n d k:Nat):sIx n d (some (k:Int))=min k n:=by
 show (if (k:Int) < 0 then ((k:Int) + (n:Int)).toNat else min (k:Int).toNat n)=min k n
 rw [if_neg (by omega),Int.toNat_natCast]
theorem HD (n d:Nat) (hd:d≤n) (o:Option Int):sIx n d o≤n:=by
 cases o with
 | none=>exact hd
 | some v =>
  show (if v < 0 then (v + (n:Int)).toNat else min v.toNat n)≤n
  by_cases hv:v < 0
  ·rw [if_pos hv]; omega
  ·rw [if_neg hv]; exact Nat.min_le_right _ _
theorem Bq (v:Int) (n d:Nat):(if v < 0 then max (v + (n:Int)) 0 else min v (n:Int))=((sIx n d (some v):Nat):Int):=by
 show (if v < 0 then max (v + (n:Int)) 0 else min v (n:Int))=(((if v < 0 then (v + (n:Int)).toNat else min v.toNat n):Nat):Int)
 by_cases hv:v < 0
 ·simp only [if_pos hv]; omega
 ·simp only [if_neg hv]; omega
theorem zW (lo hi:Option Int) (n:Nat):Builtin.Slice.sliceAdjust lo hi 1 (n:Int)=(((sIx n 0 lo:Nat):Int),((sIx n n hi:Nat):Int)):=by
 have h1 : ¬ ((1:Int) < 0):=by omega
 unfold Builtin.Slice.sliceAdjust
 simp only [h1,if_false]
 refine Prod.ext ?_ ?_
 ·cases lo with
  | none=>rfl
  | some v=>exact Bq v n 0
 ·cases hi with
  | none=>rfl
  | some v=>exact Bq v n n
theorem Bg (i j:Nat):Builtin.Slice.slicePlaces (i:Int) (j:Int) 1=j - i:=by
 unfold Builtin.Slice.slicePlaces
 have h1:(1:Int) > 0:=by omega
 simp only [h1,if_true,Int.ediv_one]
 split <;> omega
theorem rG {v:Value} {o:Option Int} {Q:Option Int→Shared→Prop} (p:IsPart v o) (h:Q o s):wpAny (model prog w) A (Builtin.Slice.slicePartIndex v) Q E s:=by
 cases p with
 | none=>exact slicePart_none h
 | int i t=>exact slicePart_int h
theorem pX {sl:Addr} {vl vu:Value} {lo hi:Option Int} {n:Nat} {Q:Int × Int × Nat→Shared→Prop} (hs:s.heap.IsSliceOf sl vl vu .none) (pl:IsPart vl lo) (pu:IsPart vu hi)
  (h:Q (((sIx n 0 lo:Nat):Int),1,sIx n n hi - sIx n 0 lo) s):wpAny (model prog w) A (Builtin.Slice.sliceApplied (.ref sl) (pure (n:Int))) Q E s:=by
 obtain ⟨os,hos,hcs,hds⟩:=id hs
 unfold Builtin.Slice.sliceApplied Builtin.Slice.sliceFields
 refine wpAny_bind (wpAny_bind (wpAny_field hos hds (x:=vl) rfl (wpAny_bind (wpAny_field hos hds (x:=vu) rfl (wpAny_bind (wpAny_field hos hds (x:=.none) rfl (wpAny_pure ?_)))))))
 refine wpAny_bind (slicePart_none ?_)
 show wpAny _ _ (if ((1:Int) == 0)=true then _ else _) _ _ s
 rw [if_neg (by decide)]
 refine wpAny_bind (rG pl (wpAny_bind (rG pu (wpAny_bind (wpAny_pure ?_)))))
 show wpAny _ _ (match Builtin.Slice.sliceAdjust lo hi 1 (n:Int) with | (lo,hi)=>pure (lo,(1:Int),Builtin.Slice.slicePlaces lo hi 1)) _ _ s
 rw [zW lo hi n]
 show wpAny _ _ (pure (((sIx n 0 lo:Nat):Int),(1:Int),Builtin.Slice.slicePlaces ((sIx n 0 lo:Nat):Int) ((sIx n n hi:Nat):Int) 1)) _ _ s
 rw [Bg]
 exact wpAny_pure h
theorem Ei (xs:Array Value) (i k:Nat):((List.range k).filterMap fun (m:Nat)=>xs[((i:Int) + (m:Int) * 1).toNat]?).toArray=((xs.toList.drop i).take k).toArray:=by
 have e:(fun (m:Nat)=>xs[((i:Int) + (m:Int) * 1).toNat]?)=fun m=>xs[i + m]?:=by
  funext m
  have:((i:Int) + (m:Int) * 1).toNat=i + m:=by omega
  rw [this]
 rw [e]
 have:=pick_run xs i k
 rw [List.filterMap_map] at this
 have e2:((fun x=>xs[x]?) ∘ fun x=>i + x)=fun m=>xs[i + m]?:=rfl
 rw [e2] at this
 rw [this]
theorem nF {t sl:Addr} {items:Array Value} {vl vu:Value} {lo hi:Option Int} {Q:Value→Shared→Prop} (ht:IsTup s.heap t items) (hs:s.heap.IsSliceOf sl vl vu .none) (pl:IsPart vl lo) (pu:IsPart vu hi)
  (hw : ¬ (sIx items.size 0 lo=0∧sIx items.size items.size hi=items.size))
  (h:Q (.ref s.heap.objs.size) { s with heap:=s.heap.push { cls:=.type "tuple", data:=.seq ((items.toList.drop (sIx items.size 0 lo)).take (sIx items.size items.size hi - sIx items.size 0 lo)).toArray } })
  (hsz:items.size≤sizeLine):wpAny (model prog w) A (getItem (.ref t) (.ref sl)) Q E s:=by
 have htake:sizeOk (.seq ((items.toList.drop (sIx items.size 0 lo)).take (sIx items.size items.size hi - sIx items.size 0 lo)).toArray):=by
  show ((items.toList.drop (sIx items.size 0 lo)).take (sIx items.size items.size hi - sIx items.size 0 lo)).toArray.size≤sizeLine
  rw [List.size_toArray,List.length_take,List.length_drop,Array.length_toList]
  omega
 have hj:sIx items.size items.size hi≤items.size:=HD _ _ (Nat.le_refl _) hi
 obtain ⟨os,hos,hcs,hds⟩:=id hs
 have hTs:s.TypeIs (.ref sl) "slice" := ⟨os,hos,hcs⟩
 unfold getItem
 try with_reducible refine wpAny_holding ?_
 first | refine wpAny_bind (wpAny_pure ?_) | skip
 refine wpAny_bind (wpAny_sequenceKey ht.typeIs (by decide) ?_)
 refine wpAny_bind (wpAny_callSpecial?_slot (name:=Str.ofString "__getitem__") ht.typeIs PyProof.Rows.slot_tuple_getitem
  (wpAny_call_entry PyProof.Rows.slot_tuple_getitem ht.typeIs entry_tuple_getitem ?_ (args_tuple_getitem _ _)))
 show wpAny _ _ (Builtin.Tuple.tupleItemsOf (.ref t) >>= _) _ _ s
 refine wpAny_bind (tupleItemsOf_ ht ?_)
 refine wpAny_bind (wpAny_typeOf hTs ?_)
 rw [if_pos (by decide)]
 refine wpAny_bind (pX hs pl pu ?_)
 have hno : ¬ ((((sIx items.size 0 lo:Nat):Int) == 0 && (1:Int) == 1 && (sIx items.size items.size hi - sIx items.size 0 lo) == items.size)=true):=by
  intro q
  rw [Bool.and_eq_true,Bool.and_eq_true] at q
  have q1:((sIx items.size 0 lo:Nat):Int)=0:=eq_of_beq q.1.1
  have q2:sIx items.size items.size hi - sIx items.size 0 lo=items.size:=eq_of_beq q.2
  exact hw ⟨by omega,by omega⟩
 show wpAny _ _ (if (((sIx items.size 0 lo:Nat):Int) == 0 && (1:Int) == 1 && (sIx items.size items.size hi - sIx items.size 0 lo) == items.size)=true then _ else _) _ _ s
 rw [if_neg hno,Ei]
 first
  | exact wpAny_bind (m:=Builtin.Tuple.tupleExact _) (wpAny_newObj_type (wpAny_pure ⟨_,rfl,wpAny_pure h⟩) htake)
  | exact wpAny_bind (m:=Builtin.Tuple.tupleExact _) (wpAny_newObj_type (wpAny_bind (wpAny_pure (wpAny_pure ⟨_,rfl,wpAny_pure h⟩))) htake)
  | exact wpAny_bind (wpAny_bind (m:=Builtin.Tuple.tupleExact _) (wpAny_newObj_type (wpAny_pure (wpAny_pure ⟨_,rfl,wpAny_pure h⟩)) htake))
  | exact wpAny_bind (wpAny_bind (m:=Builtin.Tuple.tupleExact _) (wpAny_newObj_type (wpAny_pure ⟨_,rfl,wpAny_pure h⟩) htake))
end
end HT
namespace L2
open PySem PySem.Spec PyProof.Rows
abbrev TO:=St→Hp→(Option Int→Hp→Prop)→Prop
def PO (X:Cx) (e:Option Expr) (t:TO):Prop :=
 ∀ (pins:List (Addr × Obj)) (s:Shared) (σ:St) (H:Hp) (Q:Option Int→Hp→Prop),Inv X pins σ H s→t σ H Q →
  wpAny (model X.prog X.w) X.A (evalPart e X.env) (fun u s' => ∃ o H',Inv X pins σ H' s'∧IsPart u o∧Q o H') X.xe s
def Gm:TO:=fun _ H Q=>Q none H
def Jt (t:TE):TO:=fun σ H Q=>t σ H fun x H1 => ∃ i,x=.int i∧Q (some i) H1
theorem intsAre_of {ns:List Int} : ∀ {us:List Value},Vals (ns.map V.int) us→IntsAre us ns:=by
 induction ns with
 | nil=>intro us r; rw [List.map_nil] at r; cases r; exact .nil
 | cons n ns ih =>
  intro us r
  rw [List.map_cons] at r
  cases r with
  | cons r1 r2 =>
   obtain ⟨t,e⟩:=r1
   subst e
   exact .cons n t (ih r2)
section
variable {X:Cx} {e:Expr} {te:TE} {lo hi:Option Expr} {tl th:TO} {pos p2:Pos}
theorem lD:PO X none Gm:=by
 intro pins s σ H Q I h
 rw [evalPart_none]
 exact wpAny_pure ⟨none,H,I,.none,h⟩
theorem dI (h:PE X e te):PO X (some e) (Jt te):=by
 intro pins s σ H Q I hw
 rw [evalPart_some]
 refine thn (h pins s σ H _ I hw) fun u s1 ⟨x,H1,I1,r1,q1⟩=>?_
 obtain ⟨i,rfl,q⟩:=q1
 obtain ⟨t,rfl⟩:=r1
 exact ⟨some i,H1,I1,.int i t,q⟩
def SlR (X:Cx) (r:V→Option Int→Option Int→Hp→VK→Prop):Prop :=
 ∀ (pins:List (Addr × Obj)) (s:Shared) (σ:St) (H:Hp) (x:V) (v vl vu:Value) (lo hi:Option Int) (sl:Addr) (Q:VK),Inv X pins σ H s→RelV x v→s.heap.IsSliceOf sl vl vu .none→IsPart vl lo→IsPart vu hi→r x lo hi H Q →
  ∃ T id,typeLookup (.type T) "__getitem__" = pure (some (.builtin id))∧s.TypeIs v T∧wpAny (model X.prog X.w) X.A (getItem v (.ref sl)) (EP X pins σ Q) X.xe s
def tSl (r:V→Option Int→Option Int→Hp→VK→Prop) (te:TE) (tl th:TO):TE:=fun σ H Q=>te σ H fun x H1=>tl σ H1 fun l H2=>th σ H2 fun u H3=>r x l u H3 Q
theorem eF {r:V→Option Int→Option Int→Hp→VK→Prop} (hr:SlR X r) (he:PE X e te) (hl:PO X lo tl) (hu:PO X hi th):PE X (.Subscript e (.Slice lo hi none p2) pos) (tSl r te tl th):=by
 intro pins s σ H Q I h
 refine Subscript_ (thn (he pins s σ H _ I h) fun v s1 ⟨x,H1,I1,r1,q1⟩=>?_)
 refine wpAny_Slice (thn (hl pins s1 σ H1 _ I1 q1) fun vl s2 ⟨l,H2,I2,pl,q2⟩=>thn (hu pins s2 σ H2 _ I2 q2) fun vu s3 ⟨u,H3,I3,pu,q3⟩=>?_)
 rw [evalPart_none]
 refine wpAny_pure ?_
 have I4:Inv X pins σ H3 { s3 with heap:=s3.heap.push { cls:=.type "slice", data:=.fields #[vl,vu,.none] } }:=I3.kept (t':=s3.toks) fun b ob q=>Heap.get?_push_of_some _ q
 obtain ⟨T,id,hT,ht,hg⟩:=hr pins { s3 with heap:=s3.heap.push { cls:=.type "slice", data:=.fields #[vl,vu,.none] } } σ H3 x v vl vu l u s3.heap.objs.size Q I4 r1 (Heap.IsSliceOf.new ..) pl pu q3
 show wpAny (model X.prog X.w) X.A (subscriptTail e (.Slice lo hi none p2) v (.ref s3.heap.objs.size)) (EP X pins σ Q) X.xe { s3 with heap:=s3.heap.push { cls:=.type "slice", data:=.fields #[vl,vu,.none] } }
 exact tail_any (ops:=[.ref s3.heap.objs.size,v]) ht hT hg (by with_unfolding_all rfl)
def gM (xs:List V) (lo hi:Option Int):List V:=(xs.drop (HT.sIx xs.length 0 lo)).take (HT.sIx xs.length xs.length hi - HT.sIx xs.length 0 lo)
theorem qD (xs:List V) (lo hi:Option Int):(gM xs lo hi).length≤xs.length:=by
 unfold gM
 rw [List.length_take,List.length_drop]
 omega
def J9 (K:PySem.W.Frag):V→Option Int→Option Int→Hp→VK→Prop:=fun x lo hi H Q => ∃ a xs,x=.ref a∧SqT K H a xs ∧
 ¬ (HT.sIx xs.length 0 lo=0∧HT.sIx xs.length xs.length hi=xs.length) ∧ ∀ p,H p=none→Q (.ref p) (upd H p (.tup (gM xs lo hi)))
theorem Ih:SlR X (J9 X.K):=by
 intro pins s σ H x v vl vu lo hi sl Q I rx hs pl pu h
 obtain ⟨a,xs,rfl,hx,hw,q⟩:=h
 cases rx
 obtain ⟨its,r,ht,hz⟩:=I.tuple hx
 have hlen:its.toArray.size=xs.length:=by rw [List.size_toArray]; exact r.length.symm
 refine ⟨"tuple", _,PyProof.Rows.slot_tuple_getitem.lookup,ht.typeIs,?_⟩
 refine HT.nF ht hs pl pu (by rw [hlen]; exact hw) ?_ (by rw [hlen]; exact hz)
 rw [hlen]
 refine ⟨.ref s.heap.objs.size,_,I.laid (t':=s.toks) (o:=.tup (gM xs lo hi)) (fun b ob q=>Heap.get?_push_of_some _ q) (Nat.le_refl _) ?_,rfl,q _ (I.hok.fresh (Nat.le_refl _))⟩
 exact ⟨Nat.le_trans (qD xs lo hi) hz,_,(r.drop (HT.sIx xs.length 0 lo)).take (HT.sIx xs.length xs.length hi - HT.sIx xs.length 0 lo),IsTup.new _ _⟩
end
end L2
namespace L2
open PySem PySem.Spec PyProof.Rows
def ixN (n:Nat) (i:Int):Option Nat:=if 0≤i then (if i < n then some i.toNat else none) else if -(n:Int)≤i then some (i + n).toNat else none
def atI {α:Type} (xs:List α) (i:Int):Option α:=(ixN xs.length i).bind fun j=>xs[j]?
theorem BX {n:Nat} {i:Int} {j:Nat} (h:ixN n i=some j):seqIndex? i n=some j∧j < n ∧ -(n:Int)≤i∧i < n:=by
 unfold ixN at h
 by_cases h0:0≤i
 ·rw [if_pos h0] at h
  by_cases h1:i < n
  ·rw [if_pos h1] at h
   have e:i.toNat=j:=Option.some.inj h
   exact ⟨by rw [seqIndex_of h0 h1,e],by omega,by omega,h1⟩
  ·rw [if_neg h1] at h; cases h
 ·rw [if_neg h0] at h
  by_cases h1 : -(n:Int)≤i
  ·rw [if_pos h1] at h
   have e:(i + n).toNat=j:=Option.some.inj h
   exact ⟨by rw [seqIndex_neg (by omega) h1,e],by omega,h1,by omega⟩
  ·rw [if_neg h1] at h; cases h
theorem BZ {α:Type} {xs:List α} {i:Int} {v:α} (h:atI xs i=some v) : ∃ j,seqIndex? i xs.length=some j∧xs[j]?=some v∧j < xs.length ∧ -(xs.length:Int)≤i∧i < xs.length:=by
 unfold atI at h
 cases e:ixN xs.length i with
 | none=>rw [e] at h; cases h
 | some j =>
  rw [e] at h
  obtain ⟨h1,h2,h3,h4⟩:=BX e
  exact ⟨j,h1,h,h2,h3,h4⟩
theorem By {α:Type} {xs:List α} {j:Nat} {v:α} (h:xs[j]?=some v):atI xs (j:Int)=some v:=by
 have hj:j < xs.length:=(List.getElem?_eq_some_iff.mp h).1
 have e:ixN xs.length (j:Int)=some j:=by
  unfold ixN
  rw [if_pos (by omega),if_pos (by omega)]; simp
 unfold atI; rw [e]; exact h
theorem nJ {α:Type} (xs:List α) (v:α):atI (xs ++ [v]) (-1)=some v:=by
 have hl:(xs ++ [v]).length=xs.length + 1:=by simp
 have e:ixN (xs ++ [v]).length (-1)=some xs.length:=by
  unfold ixN
  rw [hl,if_neg (by decide),if_pos (by omega)]
  congr 1
  omega
 unfold atI
 rw [e]
 show (xs ++ [v])[xs.length]?=some v
 simp
def G8 (b:Expr):Prop := ∀ o i,subscripted b false o i=operate [o,i] (getItem o i)
def IxR (X:Cx) (r:R2):Prop :=
 ∀ (value slice:Expr) (pins:List (Addr × Obj)) (s:Shared) (σ:St) (H:Hp) (x y:V) (v u:Value) (Q:VK),Inv X pins σ H s→RelV x v→RelV y u→r x y H Q →
  subscripted slice false v u=operate [v,u] (getItem v u)→wpAny (model X.prog X.w) X.A (subscriptTail value slice v u) (EP X pins σ Q) X.xe s
def MtR (X:Cx) (id:String) (r:V→List V→Hp→VK→Prop):Prop :=
 ∀ (pins:List (Addr × Obj)) (s:Shared) (σ:St) (H:Hp) (x:V) (xs:List V) (v:Value) (us:List Value) (Q:VK),Inv X pins σ H s→RelV x v→Vals xs us→r x xs H Q →
  wpAny (model X.prog X.w) X.A (call (.builtin id) (v :: us)) (EP X pins σ Q) X.xe s
section
variable {X:Cx} {a b:Expr} {ta tb:TE} {pos:Pos}
theorem aZ {r:R2} (hr:IxR X r) (ha:PE X a ta) (hb:PE X b tb) (hs:G8 b):PE X (.Subscript a b pos) (tOp r ta tb):=by
 intro pins s σ H Q I h
 exact Subscript_ (Jg ha hb I h fun v u s2 x y H2 I2 rx ry q=>hr a b pins s2 σ H2 x y v u Q I2 rx ry q (hs _ _))
def Kh (K:PySem.W.Frag):R2:=fun x y H Q => ∃ p xs i v,x=.ref p∧y=.int i∧SqL K H p xs∧atI xs i=some v∧Q v H
def JX (K:PySem.W.Frag):R2:=fun x y H Q => ∃ p xs i v,x=.ref p∧y=.int i∧SqT K H p xs∧atI xs i=some v∧Q v H
theorem bD:IxR X (Kh X.K):=by
 intro value slice pins s σ H x y v u Q I rx ry h hs
 obtain ⟨p,xs,i,z,rfl,rfl,hq,he,q⟩:=h
 cases rx
 obtain ⟨t,rfl⟩:=ry
 obtain ⟨its,r,pl,hz⟩:=I.list hq
 obtain ⟨j,h1,h2,h3,h4,h5⟩:=BZ he
 obtain ⟨w,ew,rw'⟩:=r.get h2
 have hl:=r.length
 have hn:=v4
 have fin:EP X pins σ Q w s:=⟨z,H,I,rw',q⟩
 by_cases h0:0≤i
 ·have hj:i.toNat=j:=by
   rw [seqIndex_of h0 h5] at h1
   exact Option.some.inj h1
  exact item_listR pl.isList h0 (by omega) (by rw [hj]; simpa using ew) fin hs
 ·have hj:(i + (its.toArray.size:Int)).toNat=j:=by
   rw [seqIndex_neg (by omega) h4] at h1
   rw [List.size_toArray,← hl]
   exact Option.some.inj h1
  exact subscriptTail_builtinR (x:=w) pl.isList.typeIs slot_list_getitem.lookup
   (wpAny_getItem_list_neg (Q:=fun r s'=>r=w∧EP X pins σ Q r s') pl.isList (by omega) (by rw [List.size_toArray] <;> omega) (by omega) (by rw [hj]; simpa using ew) ⟨rfl,fin⟩) hs
theorem bx:IxR X (JX X.K):=by
 intro value slice pins s σ H x y v u Q I rx ry h hs
 obtain ⟨p,xs,i,z,rfl,rfl,hq,he,q⟩:=h
 cases rx
 obtain ⟨t,rfl⟩:=ry
 obtain ⟨its,r,pl,hz⟩:=I.tuple hq
 obtain ⟨j,h1,h2,h3,h4,h5⟩:=BZ he
 obtain ⟨w,ew,rw'⟩:=r.get h2
 have hl:=r.length
 have hn:=v4
 have fin:EP X pins σ Q w s:=⟨z,H,I,rw',q⟩
 exact subscriptTail_builtinR (x:=w) pl.typeIs slot_tuple_getitem.lookup
  (getItem_tuple (j:=j) (Q:=fun r s'=>r=w∧EP X pins σ Q r s') pl (by omega) (by omega) (by rw [List.size_toArray,← hl]; exact h1) (by simpa using ew) ⟨rfl,fin⟩) hs
theorem Ak (its:List Value) (n j:Nat) (u:Value):Obj.mapSeq (·.setIfInBounds j u) { cls:=.type "list", data:=.seq its.toArray n }={ cls:=.type "list", data:=.seq (its.set j u).toArray n }:=by
 simp [Obj.mapSeq]
theorem Inv.lst {pins:List (Addr × Obj)} {σ:St} {H:Hp} {s:Shared} {p:Addr} {xs:List V} (I:Inv X pins σ H s) (h:H p=some (.lst xs)) :
  ∃ (its:List Value) (n:Nat),Vals xs its∧s.heap.get? p=some { cls:=.type "list", data:=.seq its.toArray n }∧xs.length≤sizeLine:=by
 obtain ⟨z,its,n,r,e⟩:=I.hok p _ h
 exact ⟨its,n,r,e,z⟩
theorem Inv.lstUpd {pins:List (Addr × Obj)} {σ:St} {H:Hp} {s:Shared} {p:Addr} {xs ys:List V} {its its':List Value} {n n':Nat} {f:Obj→Obj} (I:Inv X pins σ H s) (h:H p=some (.lst xs))
  (ho:s.heap.get? p=some { cls:=.type "list", data:=.seq its.toArray n }) (hf:f { cls:=.type "list", data:=.seq its.toArray n }={ cls:=.type "list", data:=.seq its'.toArray n' }) (r:Vals ys its') (hz:ys.length≤sizeLine) (t:Nat) :
  Inv X pins σ (upd H p (.lst ys)) { s with heap:=s.heap.update p f,toks:=t }:=by
 have e:(s.heap.update p f).get? p=some { cls:=.type "list", data:=.seq its'.toArray n' }:=by
  rw [Heap.get?_update_self f ho (by rw [hf] <;> rfl),hf]
 refine I.write (x:=p) (e:=p) (by rw [h]; trivial) (.inl rfl) (fun b u hb q=>(Heap.get?_update_other _ _ (Ne.symm hb)).trans q) ⟨_,e⟩ ?_
 exact ⟨hz,its',n',r,e⟩
def Jj:V→V→V→Hp→(Hp→Prop)→Prop:=fun o i v H Q => ∃ p xs k j,o=.ref p∧i=.int k∧H p=some (.lst xs)∧ixN xs.length k=some j∧Q (upd H p (.lst (xs.set j v)))
theorem set_list:Jr X Jj:=by
 intro pins s σ H o i v ov iv u Q I ro ri rv h
 obtain ⟨p,xs,k,j,rfl,rfl,hp,hj,q⟩:=h
 cases ro
 obtain ⟨t,rfl⟩:=ri
 obtain ⟨its,n,r,ho,hz⟩:=I.lst hp
 obtain ⟨h1,h2,h3,h4⟩:=BX hj
 have hl:=r.length
 have hn:=v4
 have I':Inv X pins σ (upd H p (.lst (xs.set j v))) { s with heap:=s.heap.update p (Obj.mapSeq (·.setIfInBounds j u)) } :=
  I.lstUpd hp ho (Ak its n j u) (r.set rv j) (by rw [List.length_set]; exact hz) s.toks
 by_cases h0:0≤k
 ·have hk:k.toNat=j:=by
   rw [seqIndex_of h0 h4] at h1
   exact Option.some.inj h1
  exact PySem.W.ki_setAt ho h0 (by omega) (by rw [List.size_toArray,← hl]; exact h4) (by rw [hk]; exact ⟨_,I',q⟩)
 ·have hk:(k + (its.toArray.size:Int)).toNat=j:=by
   rw [seqIndex_neg (by omega) h3] at h1
   rw [List.size_toArray,← hl]
   exact Option.some.inj h1
  exact PySem.W.ki_setBack ho (by omega) (by rw [List.size_toArray,← hl]; exact h3) (by omega) (by rw [hk]; exact ⟨_,I',q⟩)
theorem vV (lo hi:Option Int) (n:Nat):(sliceBounds lo hi none n).1=((HT.sIx n 0 lo:Nat):Int)∧(sliceBounds lo hi none n).2.1=((HT.sIx n n hi:Nat):Int)∧(sliceBounds lo hi none n).2.2=1:=by
 refine ⟨?_,?_,rfl⟩
 ·cases lo with
  | none=>simp [sliceBounds,HT.sIx]
  | some i =>
   simp only [sliceBounds,HT.sIx,Option.getD_none,show (1:Int) > 0 by decide,if_true]
   by_cases h:i < 0
   ·simp only [h,if_true] <;> omega
   ·simp only [h,if_false] <;> omega
 ·cases hi with
  | none=>simp [sliceBounds,HT.sIx]
  | some i =>
   simp only [sliceBounds,HT.sIx,Option.getD_none,show (1:Int) > 0 by decide,if_true]
   by_cases h:i < 0
   ·simp only [h,if_true] <;> omega
   ·simp only [h,if_false] <;> omega
theorem uC (its:List Value) (lo hi:Option Int):slicePick its.toArray lo hi none=((its.drop (HT.sIx its.length 0 lo)).take (HT.sIx its.length its.length hi - HT.sIx its.length 0 lo)).toArray:=by
 obtain ⟨h1,h2,h3⟩:=vV lo hi its.toArray.size
 unfold slicePick
 rw [h1,h2,h3]
 simp only [sliceRange_one,pick_run,List.size_toArray] <;> rfl
def Jk (K:PySem.W.Frag):V→Option Int→Option Int→Hp→VK→Prop:=fun x lo hi H Q => ∃ a xs,x=.ref a∧SqL K H a xs ∧ ∀ p,H p=none→Q (.ref p) (upd H p (.lst (gM xs lo hi)))
theorem gU:SlR X (Jk X.K):=by
 intro pins s σ H x v vl vu lo hi sl Q I rx hs pl pu h
 obtain ⟨a,xs,rfl,hx,q⟩:=h
 cases rx
 obtain ⟨its,r,ht,hz⟩:=I.list hx
 have hlen:=r.length
 refine ⟨"list", _,slot_list_getitem.lookup,ht.isList.typeIs,?_⟩
 refine wpAny_getItem_list_slice ht.isList hs pl pu .none (by simp) ?_ (by rw [List.size_toArray] <;> omega)
 rw [uC,← hlen]
 refine ⟨.ref s.heap.objs.size,_,I.laid (t':=s.toks) (o:=.lst (gM xs lo hi)) (fun b ob q=>Heap.get?_push_of_some _ q) (Nat.le_refl _) ?_,rfl,q _ (I.hok.fresh (Nat.le_refl _))⟩
 exact ⟨Nat.le_trans (qD xs lo hi) hz,_,0,(r.drop (HT.sIx xs.length 0 lo)).take (HT.sIx xs.length xs.length hi - HT.sIx xs.length 0 lo),Heap.get?_push_size _ rfl⟩
theorem aQ:jj X (.builtin "len") (fun xs H Q => ∃ p ys,xs=[.ref p]∧(SqL X.K H p ys∨SqT X.K H p ys)∧Q (.int ys.length) H):=by
 intro pins s σ H xs us Q I r h
 obtain ⟨p,ys,rfl,hq,q⟩:=h
 obtain ⟨u,rfl,rx⟩:=vals1 r
 cases rx
 have hn:=v4
 rcases hq with hq | hq
 ·obtain ⟨its,r',pl,hz⟩:=I.list hq
  have hlen:=r'.length
  exact Calls.call_len_list pl.isList (by simp only [List.size_toArray] <;> omega) ⟨.int ys.length,H,I.tok _,⟨s.toks + 1,by rw [List.size_toArray,hlen]⟩,q⟩
 ·obtain ⟨its,r',pl,hz⟩:=I.tuple hq
  have hlen:=r'.length
  exact len_tuple pl (by simp only [List.size_toArray] <;> omega) ⟨.int ys.length,H,I.tok _,⟨s.toks + 1,by rw [List.size_toArray,hlen]⟩,q⟩
theorem jr:jj X (.type "list") (fun xs H Q => ∃ p ys,xs=[.ref p]∧(SqL X.K H p ys∨SqT X.K H p ys) ∧ ∀ l,H l=none→Q (.ref l) (upd H l (.lst ys))):=by
 intro pins s σ H xs us Q I r h
 obtain ⟨p,ys,rfl,hq,q⟩:=h
 obtain ⟨u,rfl,rx⟩:=vals1 r
 cases rx
 have fin : ∀ (its:List Value),Vals ys its→ys.length≤sizeLine → ∀ (h':Heap) (c':Nat),(∀ b o',s.heap.get? b=some o'→h'.get? b=some o') →
   h'.get? s.heap.objs.size=some { cls:=.type "list", dict:=none,data:=.seq its.toArray c',slots := #[] }→EP X pins σ Q (.ref s.heap.objs.size) { s with heap:=h' }:=fun its r' hz h' c' kp e =>
  ⟨.ref s.heap.objs.size,_,I.laid (t':=s.toks) kp (Nat.le_refl _) (show cD X.prog X.w _ h' _ (.lst ys) from ⟨hz,its,c',r',e⟩),rfl,q _ (I.hok.fresh (Nat.le_refl _))⟩
 rcases hq with hq | hq
 ·obtain ⟨its,r',pl,hz⟩:=I.list hq
  have hlen:=r'.length
  obtain ⟨o,ho,hc,n,hd⟩:=pl.isList
  exact call_list_seq p (.inl rfl) ho hc hd (fun h' c' kp e=>fin its r' hz h' c' kp e) (by simp only [List.size_toArray] <;> omega)
 ·obtain ⟨its,r',pl,hz⟩:=I.tuple hq
  have hlen:=r'.length
  obtain ⟨o,ho,hc,n,hd⟩:=pl
  exact call_list_seq p (.inr rfl) ho hc hd (fun h' c' kp e=>fin its r' hz h' c' kp e) (by simp only [List.size_toArray] <;> omega)
theorem lW:jj X (.type "tuple") (fun xs H Q => ∃ p ys,xs=[.ref p]∧((SqL X.K H p ys ∧ ∀ l,H l=none→Q (.ref l) (upd H l (.tup ys)))∨(SqT X.K H p ys∧Q (.ref p) H))):=by
 intro pins s σ H xs us Q I r h
 obtain ⟨p,ys,rfl,h⟩:=h
 obtain ⟨u,rfl,rx⟩:=vals1 r
 cases rx
 rcases h with ⟨hq,q⟩ | ⟨hq,q⟩
 ·obtain ⟨its,r',pl,hz⟩:=I.list hq
  have hlen:=r'.length
  refine call_tuple_list pl.isList (fun h' kp=>?_) (by simp only [List.size_toArray] <;> omega)
  have I1:Inv X pins σ H { s with heap:=h' }:=I.kept (t':=s.toks) kp
  have I2:Inv X pins σ (upd H h'.objs.size (.tup ys)) { s with heap:=h'.push { cls:=.type "tuple", data:=.seq its.toArray } } :=
   I1.laid (t':=s.toks) (fun b o e=>Heap.get?_push_of_some _ e) (Nat.le_refl _) (show cD X.prog X.w _ _ _ (.tup ys) from ⟨hz,its,r',IsTup.new _ _⟩)
  exact ⟨.ref h'.objs.size,_,I2,rfl,q _ (I1.hok.fresh (Nat.le_refl _))⟩
 ·obtain ⟨its,r',pl,hz⟩:=I.tuple hq
  exact call_tuple_same pl ⟨.ref p,H,I,rfl,q⟩
def tyV (K:PySem.W.Frag) (T:String) (x:V) (H:Hp):Prop:=match x with
 | .str _=>T = "str"
 | .int _=>T = "int"
 | .ref p=>(T = "list" ∧ ∃ xs,SqL K H p xs)∨(T = "tuple" ∧ ∃ o,K.lookup p=some o∧o.cls=.type "tuple" ∧ o.dict=none) ∨
   (T = "dict" ∧ ((∃ kvs,H p=some (.dK kvs)) ∨ ∃ kvs,H p=some (.dT kvs)))∨(T = "set" ∧ ∃ S n,H p=some (.set S n))
 | _=>False
theorem Fe {pins:List (Addr × Obj)} {σ:St} {H:Hp} {s:Shared} {T:String} {x:V} {v:Value} (I:Inv X pins σ H s) (r:RelV x v) (ty:tyV X.K T x H) :
  s.TypeIs v T ∧ ∀ a,v=.ref a → ∃ ob,s.heap.get? a=some ob∧ob.dict=none:=by
 cases x with
 | str z =>
  obtain ⟨t,rfl⟩:=r
  cases (show T = "str" from ty)
  exact ⟨typeIs_str s z t,fun _ e=>nomatch e⟩
 | int i =>
  obtain ⟨t,rfl⟩:=r
  cases (show T = "int" from ty)
  exact ⟨typeIs_int s i t,fun _ e=>nomatch e⟩
 | ref p =>
  cases r
  rcases ty with ⟨rfl,xs,hq⟩ | ⟨rfl,o,hk,hc,hd⟩ | ⟨rfl,hk⟩ | ⟨rfl,S,n,hk⟩
  ·obtain ⟨its,_,pl,_⟩:=I.list hq
   refine ⟨pl.isList.typeIs,fun a e=>?_⟩
   cases e
   obtain ⟨o,n,e,c,hd,_⟩:=pl
   exact ⟨o,e,hd⟩
  ·refine ⟨⟨o,I.kIn p o hk,hc⟩,fun a e=>?_⟩
   cases e
   exact ⟨o,I.kIn _ o hk,hd⟩
  ·have z : ∃ o,s.heap.get? p=some o∧o.ExactDict:=by
    rcases hk with ⟨kvs,hk⟩ | ⟨kvs,hk⟩
    ·obtain ⟨_,_,_,_,o,_,_,e,ex,_⟩:=I.hok p _ hk
     exact ⟨o,e,ex⟩
    ·obtain ⟨_,_,_,_,o,_,_,e,ex,_⟩:=I.hok p _ hk
     exact ⟨o,e,ex⟩
   obtain ⟨o,e,ex⟩:=z
   refine ⟨⟨o,e,ex.1⟩,fun a e2=>?_⟩
   cases e2
   exact ⟨o,e,ex.2.1⟩
  ·obtain ⟨o,_,_,_,e,ex,_⟩:=I.hok p _ hk
   refine ⟨⟨o,e,ex.1⟩,fun a e2=>?_⟩
   cases e2
   exact ⟨o,e,ex.2.1⟩
 | _=>exact False.elim ty
def J7 (K:PySem.W.Frag) (T:String) (r:V→List V→Hp→VK→Prop) (to:TE):TE:=fun σ H Q=>to σ H fun x H1=>tyV K T x H1∧r x [] H1 Q
def tBM (K:PySem.W.Frag) (T:String) (r:V→List V→Hp→VK→Prop) (to:TE) (t:TA):TE:=fun σ H Q=>to σ H fun x H1=>tyV K T x H1∧t σ H1 fun xs H2=>r x xs H2 Q
variable {o e:Expr} {es:List Expr} {to:TE} {t:TA} {name:Str} {apos cpos:Pos} {T id:String} {r:V→List V→Hp→VK→Prop}
theorem Ed (pa:PlainAttrs T) (slot:Slot T name id) (hty:typeOf (.builtin id)=pure (.type "method_descriptor")) (hm:MtR X id r) (ho:PE X o to)
  (hbase:attributeBase o name X.env (eval o X.env)=eval o X.env:=by rfl) (hline:(apos.endLine == cpos.line)=true:=by rfl):PE X (.Call (.Attribute o name apos) [] [] cpos) (J7 X.K T r to):=by
 intro pins s σ H Q I h
 refine wpAny_Call_method0_late hbase hline (thn (ho pins s σ H _ I h) fun v s1 ⟨x,H1,I1,r1,ty,q1⟩=>?_)
 obtain ⟨h1,h2⟩:=Fe I1 r1 ty
 exact ⟨T,id,pa,slot,hty,h1,h2,Calls.callWith_builtin rfl (PySem.evalArgs_none (hm pins s1 σ H1 x [] v [] Q I1 r1 .nil q1))⟩
theorem eY (pa:PlainAttrs T) (slot:Slot T name id) (hty:typeOf (.builtin id)=pure (.type "method_descriptor")) (hm:MtR X id r) (ho:PE X o to) (ha:PA X (e :: es) t)
  (hbase:attributeBase o name X.env (eval o X.env)=eval o X.env:=by rfl)
  (hfew:((backTo cpos (starEach (e :: es) X.env)).all (fun x => !x.1) && (backToKw cpos (keywordEach [] X.env)).all (fun x=>x.1.isSome)
   && decide ((e :: es).length + ([]:List Keyword).length + (if ([]:List Keyword).isEmpty then 0 else 1) < 30))=true:=by rfl)
  (hline:(apos.endLine == cpos.line)=true:=by rfl) (hs:starEach (e :: es) X.env=(false,eval e X.env) :: starEach es X.env:=by rfl) (hplain:(backTo cpos (starEach es X.env)).any (·.1)=false:=by rfl) :
  PE X (.Call (.Attribute o name apos) (e :: es) [] cpos) (tBM X.K T r to t):=by
 intro pins s σ H Q I h
 refine wpAny_Call_method_late hbase hfew hline rfl (thn (ho pins s σ H _ I h) fun v s1 ⟨x,H1,I1,r1,ty,q1⟩=>?_)
 obtain ⟨h1,h2⟩:=Fe I1 r1 ty
 refine ⟨T,id,pa,slot,hty,h1,h2,?_⟩
 have hA:=ha cpos pins s1 σ H1 _ I1 q1
 rw [hs] at hA ⊢
 refine Calls.callWith_builtin (by show (false || (backTo cpos (starEach es X.env)).any (·.1))=false; rw [hplain] <;> rfl) (Calls.evalArgs_plain ?_)
 exact thn hA fun us s2 ⟨vs,H2,I2,r2,q2⟩=>hm pins s2 σ H2 x vs v us Q I2 r1 r2 q2
end
end L2
namespace L2
open PySem PySem.Spec PyProof.Rows
def MtM (X:Cx) (id:String) (r:V→List V→Hp→VK→Prop):Prop :=
 ∀ (pins:List (Addr × Obj)) (s:Shared) (σ:St) (H:Hp) (x:V) (xs:List V) (v:Value) (us:List Value) (Q:VK),Inv X pins σ H s→RelV x v→Vals xs us→r x xs H Q →
  wpAny (model X.prog X.w) X.A (call (.builtin id) (v :: us)) (EP X pins σ Q) X.xe s
theorem Vals.one : ∀ {x:V} {us:List Value},Vals [x] us → ∃ u,us=[u]∧RelV x u
 | _,_,.cons r .nil=>⟨_,rfl,r⟩
theorem Vals.zero : ∀ {us:List Value},Vals [] us→us=[]
 | _,.nil=>rfl
theorem Vals.dropLast {xs:List V} {us:List Value} (h:Vals xs us):Vals xs.dropLast us.dropLast:=by
 induction h with
 | nil=>exact .nil
 | cons r t ih =>
  cases t with
  | nil=>exact .nil
  | cons q t'=>exact .cons r ih
theorem Vals.reverse {xs:List V} {us:List Value} (h:Vals xs us):Vals xs.reverse us.reverse:=by
 induction h with
 | nil=>exact .nil
 | cons r t ih=>rw [List.reverse_cons,List.reverse_cons]; exact Vals.append ih (.cons r .nil)
theorem Vals.rep {xs:List V} {us:List Value} (h:Vals xs us) : ∀ k:Nat,Vals (List.replicate k xs).flatten (List.replicate k us).flatten
 | 0=>.nil
 | k + 1=>by
  rw [List.replicate_succ,List.replicate_succ,List.flatten_cons,List.flatten_cons]
  exact Vals.append h (Vals.rep h k)
theorem Aj {α:Type} (l:List α):l.eraseIdx (l.length - 1)=l.dropLast:=by
 induction l with
 | nil=>rfl
 | cons a r ih =>
  cases r with
  | nil=>rfl
  | cons b r =>
   have e:(a :: b :: r).length - 1=((b :: r).length - 1) + 1:=by
    have h1:(a :: b :: r).length=r.length + 2:=rfl
    have h2:(b :: r).length=r.length + 1:=rfl
    omega
   rw [e,List.eraseIdx_cons_succ,ih]
   all_goals rfl
theorem foldl_rep (its:List Value) : ∀ (k:Nat) (acc:List Value),
  List.foldl (fun x1 x2=>x1 ++ x2) acc.toArray (List.replicate k its.toArray)=(acc ++ (List.replicate k its).flatten).toArray
 | 0,acc=>by simp
 | k + 1,acc=>by
  have e:acc.toArray ++ its.toArray=(acc ++ its).toArray:=by simp
  have e2:(acc ++ its) ++ (List.replicate k its).flatten=acc ++ (List.replicate (k + 1) its).flatten:=by
   rw [List.replicate_succ,List.flatten_cons,List.append_assoc]
  rw [← e2,← foldl_rep its k (acc ++ its),← e,List.replicate_succ,List.foldl_cons]
section
variable {X:Cx} {pins:List (Addr × Obj)} {σ:St} {H:Hp} {s:Shared} {l b:Addr} {xs ys zs:List V}
theorem Inv.lset {its its':List Value} {n:Nat} {f:Array Value→Array Value} {t':Nat} (I:Inv X pins σ H s) (hH:H l=some (.lst xs))
  (e:s.heap.get? l=some { cls:=.type "list", data:=.seq its.toArray n }) (hf:f its.toArray=its'.toArray) (hv:Vals ys its') (hz:ys.length≤sizeLine) :
  Inv X pins σ (upd H l (.lst ys)) { s with heap:=s.heap.update l (Obj.mapSeq f),toks:=t' }:=by
 have q:=PySem.IsL.update e f
 rw [hf] at q
 refine I.write (x:=l) (e:=l) (by rw [hH]; exact trivial) (.inl rfl) (fun b' u hb hu=>(Heap.get?_update_other s.heap (Obj.mapSeq f) (Ne.symm hb)).trans hu) ⟨_,q⟩ ?_
 exact ⟨hz,its',_,hv,q⟩
theorem Inv.lnew {its:List Value} {t':Nat} (I:Inv X pins σ H s) (hv:Vals ys its) (hz:ys.length≤sizeLine) :
  Inv X pins σ (upd H s.heap.objs.size (.lst ys)) { s with heap:=s.heap.push { cls:=.type "list", data:=.seq its.toArray },toks:=t' } :=
 I.laid (fun _ _ q=>Heap.get?_push_of_some _ q) (Nat.le_refl _) ⟨hz,its,0,hv,Heap.get?_push_size _ rfl⟩
theorem Inv.fresh (I:Inv X pins σ H s):H s.heap.objs.size=none:=I.hok.fresh (Nat.le_refl _)
theorem Inv.lstM (I:Inv X pins σ H s) (hH:H l=some (.lst xs)):xs.length≤sizeLine ∧ ∃ (its:List Value) (n:Nat),Vals xs its∧xs.length=its.length∧s.heap.get? l=some { cls:=.type "list", data:=.seq its.toArray n }:=by
 obtain ⟨z,its,n,r,e⟩:=I.hok l _ hH
 exact ⟨z,its,n,r,r.length,e⟩
theorem xQ {n:Nat} (h:n≤sizeLine):Builtin.List.listTooLong n=false:=by
 unfold Builtin.List.listTooLong
 exact decide_eq_false (by omega)
end
section
variable {X:Cx}
def G3:V→List V→Hp→VK→Prop:=fun x vs H Q => ∃ l xs y,x=.ref l∧vs=[y]∧H l=some (.lst xs)∧xs.length < sizeLine∧Q .non (upd H l (.lst (xs ++ [y])))
theorem bH:MtM X "list.append" G3:=by
 intro pins s σ H x vs v us Q I rx rv h
 obtain ⟨l,xs,y,rfl,rfl,hH,hz,q⟩:=h
 cases rx
 obtain ⟨u,rfl,ru⟩:=rv.one
 obtain ⟨z,its,n,r,hl,e⟩:=I.lstM hH
 refine call_meets F.slot_list_append ⟨_,e,rfl⟩ F.entry_list_append (F.args_list_append_2 _ _) (PySem.list_append l its.toArray n u (by rw [List.size_toArray]; omega)) ⟨e,?_⟩
 refine ⟨.non,_,I.lset (its':=its ++ [u]) hH e (by simp) (r.append (.cons ru .nil)) ?_,rfl,q⟩
 rw [List.length_append,List.length_singleton]
 omega
def GJ:V→List V→Hp→VK→Prop:=fun x vs H Q => ∃ l b xs zs,x=.ref l∧vs=[.ref b]∧H l=some (.lst xs)∧H b=some (.lst zs)∧xs.length + zs.length≤sizeLine∧Q .non (upd H l (.lst (xs ++ zs)))
theorem pU:MtM X "list.extend" GJ:=by
 intro pins s σ H x vs v us Q I rx rv h
 obtain ⟨l,b,xs,zs,rfl,rfl,hH,hB,hz,q⟩:=h
 cases rx
 obtain ⟨u,rfl,ru⟩:=rv.one
 cases ru
 obtain ⟨z,its,n,r,hl,e⟩:=I.lstM hH
 obtain ⟨z2,its2,n2,r2,hl2,e2⟩:=I.lstM hB
 have hsz:its.toArray.size + its2.toArray.size≤sizeLine:=by rw [List.size_toArray,List.size_toArray]; omega
 have hlong : ¬ (!its.toArray.isEmpty && Builtin.List.listTooLong (its.toArray.size + its2.toArray.size))=true:=by
  rw [xQ hsz,Bool.and_false]
  exact Bool.false_ne_true
 refine call_meets F.slot_list_extend ⟨_,e,rfl⟩ F.entry_list_extend (F.args_list_extend_2 _ _)
  (AutoSeq1.list_extend_list_list_0 l its.toArray n b its2.toArray n2 hlong (by rw [List.size_toArray]; omega) (by omega)) ⟨e,e2,?_⟩
 refine ⟨.non,_,I.lset (its':=its ++ its2) hH e (by simp) (r.append r2) ?_,rfl,q⟩
 rw [List.length_append]
 omega
def J5:V→List V→Hp→VK→Prop:=fun x vs H Q => ∃ l xs y,x=.ref l∧vs=[]∧H l=some (.lst xs)∧xs[xs.length - 1]?=some y∧Q y (upd H l (.lst xs.dropLast))
theorem Hs:MtM X "list.pop" J5:=by
 intro pins s σ H x vs v us Q I rx rv h
 obtain ⟨l,xs,y,rfl,rfl,hH,hy,q⟩:=h
 cases rx
 have hus:=rv.zero
 subst hus
 obtain ⟨z,its,n,r,hl,e⟩:=I.lstM hH
 obtain ⟨u,hu,ru⟩:=r.get hy
 have hy':its.toArray[its.toArray.size - 1]?=some u:=by
  show its.toArray[its.length - 1]?=some u
  rw [← Array.getElem?_toList,← hl]
  exact hu
 refine call_meets F.slot_list_pop ⟨_,e,rfl⟩ F.entry_list_pop (F.args_list_pop_1 _) (MeetsSeq.list_pop_last l its.toArray n u hy' (by rw [List.size_toArray]; omega)) ⟨e,?_⟩
 refine ⟨y,_,I.lset (its':=its.dropLast) hH e ?_ r.dropLast ?_,ru,q⟩
 ·show its.toArray.eraseIdxIfInBounds (its.toArray.size - 1)=its.dropLast.toArray
  rw [List.size_toArray,List.eraseIdxIfInBounds_toArray,Aj]
 ·rw [List.length_dropLast]
  omega
def Ii:V→List V→Hp→VK→Prop:=fun x vs H Q => ∃ l xs,x=.ref l∧vs=[]∧H l=some (.lst xs)∧Q .non (upd H l (.lst []))
theorem Ec:MtM X "list.clear" Ii:=by
 intro pins s σ H x vs v us Q I rx rv h
 obtain ⟨l,xs,rfl,rfl,hH,q⟩:=h
 cases rx
 have hus:=rv.zero
 subst hus
 obtain ⟨z,its,n,r,hl,e⟩:=I.lstM hH
 refine call_meets F.slot_list_clear ⟨_,e,rfl⟩ F.entry_list_clear (F.args_list_clear_1 _) (AutoSeq1.list_clear_list_0 l its.toArray n (by rw [List.size_toArray]; omega)) ⟨e,?_⟩
 exact ⟨.non,_,I.lset (its':=[]) (ys:=[]) hH e rfl .nil (Nat.zero_le _),rfl,q⟩
def J6:R2:=fun x y H Q => ∃ l b xs zs,x=.ref l∧y=.ref b∧H l=some (.lst xs)∧H b=some (.lst zs)∧xs.length + zs.length≤sizeLine ∧ ∀ p,H p=none→Q (.ref p) (upd H p (.lst (xs ++ zs)))
theorem iD:OpR X (binaryOp .Add) J6:=by
 intro pins s σ H x y v u Q I rx ry h
 obtain ⟨l,b,xs,zs,rfl,rfl,hH,hB,hz,q⟩:=h
 cases rx
 cases ry
 obtain ⟨z,its,n,r,hl,e⟩:=I.lstM hH
 obtain ⟨z2,its2,n2,r2,hl2,e2⟩:=I.lstM hB
 refine PySem.P.add_list e e2 ?_ (by rw [List.size_toArray,List.size_toArray]; omega)
 have ea:its.toArray ++ its2.toArray=(its ++ its2).toArray:=by simp
 rw [ea]
 exact ⟨.ref _,_,I.lnew (t':=s.toks) (r.append r2) (by rw [List.length_append]; omega),rfl,q _ I.fresh⟩
def JF:R2:=fun x y H Q => ∃ l k xs,x=.ref l∧y=.int k∧H l=some (.lst xs) ∧ -(2 ^ 63)≤k∧k < 2 ^ 63∧xs.length * k.toNat≤sizeLine ∧
 ∀ p,H p=none→Q (.ref p) (upd H p (.lst (List.replicate k.toNat xs).flatten))
theorem len_rep {α:Type} (xs:List α) (k:Nat):(List.replicate k xs).flatten.length=k * xs.length:=by
 induction k with
 | zero=>simp
 | succ k ih=>rw [List.replicate_succ,List.flatten_cons,List.length_append,ih,Nat.succ_mul,Nat.add_comm]
theorem ug:OpR X (binaryOp .Mult) JF:=by
 intro pins s σ H x y v u Q I rx ry h
 obtain ⟨l,k,xs,rfl,rfl,hH,h1,h2,hz,q⟩:=h
 cases rx
 obtain ⟨t,rfl⟩:=ry
 obtain ⟨z,its,n,r,hl,e⟩:=I.lstM hH
 have hlen:its.toArray.size * k.toNat≤sizeLine:=by rw [List.size_toArray,← hl]; exact hz
 have hcap : ¬ its.toArray.size * k.toNat > (2 ^ 63 - 1) / 8:=by
  have:(sizeLine:Nat)≤(2 ^ 63 - 1) / 8:=by decide
  omega
 have hfit : ¬ (!Builtin.List.listFitsIndex k)=true:=by
  rw [fitsIndex_both h1 h2]
  exact Bool.false_ne_true
 have hlong : ¬ Builtin.List.listTooLong (its.toArray.size * k.toNat)=true:=by
  rw [xQ hlen]
  exact Bool.false_ne_true
 have hnew:List.foldl (fun x1 x2=>x1 ++ x2) #[] (List.replicate (if its.toArray.isEmpty=true then 0 else k.toNat) its.toArray)=(List.replicate k.toNat its).flatten.toArray:=by
  have f0 : ∀ m:Nat,List.foldl (fun x1 x2=>x1 ++ x2) #[] (List.replicate m its.toArray)=(List.replicate m its).flatten.toArray:=fun m=>by
   have:=foldl_rep its m []
   rw [List.nil_append] at this
   exact this
  rw [f0]
  cases its with
  | nil=>simp
  | cons a r'=>rw [if_neg (by simp)]
 refine wpAny_binaryOp_repeat_ref (T := "list") (U := "int") (by decide) ⟨_,e,rfl⟩ (fun s'=>typeIs_int s' k t) noFill_list_mul F.fills_int_mul F.slot_int_rmul repeat_list F.slot_int_index.lookup
  (call_meets F.slot_int_rmul (typeIs_int s k t) F.entry_int_rmul (F.args_int_rmul_2 _ _) (int___rmul___int_list k t l its.toArray n)
   ⟨e,rfl,⟨_,e,rfl⟩,call_meets F.slot_list_mul ⟨_,e,rfl⟩ F.entry_list_mul (F.args_list_mul_2 _ _) (AutoListH.list___mul___list_int_3 l its.toArray n k t hfit hcap hlong) ⟨e,?_⟩⟩)
 rw [hnew]
 exact ⟨.ref _,_,I.lnew (t':=s.toks) (r.rep k.toNat) (by rw [len_rep,Nat.mul_comm]; exact hz),rfl,q _ I.fresh⟩
end
section
variable {prog:Program} {w:World} {A:Around} {E:Value→Shared→Prop} {s:Shared}
end
section
variable {X:Cx}
end
end L2
namespace Att
open PySem PySem.W PySem.Calls PyProof.Rows
theorem qH {P:Params} {h:Heap} : ∀ (ns:List Int) (vs:List Value),WellAll P h vs (ns.map WData.int)→IntsAre vs ns:=by
 intro ns
 induction ns with
 | nil =>
  intro vs w
  rw [List.map_nil] at w
  cases w
  exact .nil
 | cons n ns ih =>
  intro vs w
  rw [List.map_cons] at w
  cases w with
  | cons a b =>
   cases a
   exact .cons _ _ (ih _ b)
theorem Dg {l:OpenLaw} {n:Nat} (hn:l.most=some n) {P:Params} {h:Heap} {args:List WData} {vals:List Value}
  (hpre:l.row.toRowW.claim.pre args=true) (hwl:WellAll P h vals args) :
  ∃ a vs ns,vals=[Value.ref a]∧args=[WData.list (ns.map WData.int)]∧h.get? a=some { cls:=.type "list", data:=.seq vs.toArray }∧IntsAre vs ns∧ns.length≤n:=by
 have hsh:WShape.hasAll [] args [.list .int]=true:=(pre_splitW hpre).1
 have hc:l.pre.holds [] { args:=args }=true:=(pre_splitW hpre).2
 obtain ⟨d,r,rfl,h1,h2⟩:=hasAllW_cons hsh
 obtain rfl:=hasAllW_nil h2
 obtain ⟨xs,rfl,h3⟩:=hasW_list h1
 obtain ⟨ns,rfl⟩:=items_int h3
 have hlen:ns.length≤n:=by
  unfold OpenLaw.pre at hc
  have h4:(WTm.not (.lt (.lit (.int (n:Int))) (.len (.arg 0)))).holds [] { args:=[.list (ns.map .int)] }=true:=by
   have h4:=(holds_andW hc).1
   rw [hn] at h4
   exact h4
  have h5:=condW_of h4 (w_not (w_lt w_lit (w_len_list (w_arg rfl))))
  rw [List.length_map] at h5
  refine Nat.le_of_not_lt fun q=>?_
  have q':(n:Int) < ((ns.length:Nat):Int):=by omega
  first
   | (rw [decide_eq_true q'] at h5; exact absurd h5 (by decide))
   | (simp at h5; omega)
 cases hwl with
 | cons w1 w2 =>
  cases w2
  cases w1 with
  | list ho hall=>exact ⟨_,_,ns,rfl,rfl,ho,qH ns _ hall,hlen⟩
theorem CP (l:OpenLaw) (args:List WData):l.row.toRowW.claim.post args (.bool true) args=true :=
 postW_of (r:=l.row.toRowW) (X:=(true == true))
  (show WShape.has [] (.bool true) .bool=true by first | rfl | decide | simp [WShape.has,WShape.arms,WShape.armsAll])
  (show (WTm.eq .res (.lit (.bool true))).value [] { args:=args,res:=some (.bool true),after:=args }=some (.bool (true == true)) from w_eq_bool (w_res rfl) w_lit) rfl
theorem attach_call {l:OpenLaw} {n:Nat} {q:Program} {loose:List Str} {XP:(Str→Option Value)→Heap→Prop} {YP:World→Heap→Prop} {d:DefRec}
  (hn:l.most=some n) (hdf:d.params.defaults=[])
  (call : ∀ (w:World) (s₀ s₁:Shared) (mg mb:Str→Option Value) (fa:Addr) (o:Obj) (pm cd doc:Value) (a:Addr) (vs:List Value) (ns:List Int),
   Ground q loose [] XP w s₀ mg mb s₁.heap→YP w s₁.heap →
   s₁.heap.get? fa=some o→o.data=.func (docDef d.name d.params d.body d.scope pm cd doc)→s₁.heap.CodeRec cd d.name→mg d.name=some (.ref fa) →
   s₁.heap.get? a=some { cls:=.type "list", data:=.seq vs.toArray }→IntsAre vs ns→ns.length≤n→s₁.gens = #[] →
   codeAny (model l.prog w) callerA (.call (.ref fa) ⟨[.ref a],[]⟩) (fun r s'=>r=.ok (.ret (.bool true))∧OldK s₁.heap s'.heap∧s'.os=s₁.os∧AllBare s'.gens) s₁) :
  WalkO q loose XP YP l.row.toRowW d [] (fun f vs=>PySem.call f vs):=by
 intro w s₀ s₁ mg mb G Y fa o pm cd doc dV kV ho hd hcd hD hmg hg args vals as hpre hlay hrd hwl hlo
 obtain rfl:dV=.none:=Dflts.none hD hdf
 obtain rfl:kV=.none:=Dflts.noKw hD
 obtain ⟨a,vs,ns,rfl,rfl,hobj,hints,hlen⟩:=Dg hn hpre hwl
 refine enter_call (codeAny_mono (call w s₀ s₁ mg mb fa o pm cd doc a vs ns G Y ho (fd_plain hd) hcd hmg hobj hints hlen hg) fun r s' hq=>?_)
 obtain ⟨rfl,h2,h3,h4⟩:=hq
 exact ⟨.inl ⟨.bool true,.bool true,[],rfl,fun _=>rfl,.bool true,CP l _,fun _=>⟨List.Pairwise.nil,fun _ hm=>(nomatch hm)⟩⟩,h2,h3,h4⟩
section
variable {prog:Program} {w:World} {A:Around} {E:Value→Shared→Prop} {s:Shared} {K:Frag}
end
end Att
namespace L2
open PySem PySem.Spec PyProof.Rows
theorem u0 : ∀ {vs:List Value} {ns:List Int},IntsAre vs ns→Vals (ns.map V.int) vs
 | _,_,.nil=>.nil
 | _,_,.cons n t h=>.cons ⟨t,rfl⟩ (u0 h)
end L2
namespace L2
open PySem PySem.Spec PyProof.Rows
end L2
namespace L2
open PySem PySem.Spec PyProof.Rows
def defArgs (s:Stmt):Arguments:=match s with
 | .FunctionDef _ a _ _ _ _ _ _ _ _=>a
 | _=>{ posonlyargs:=[],args:=[],vararg:=none,kwonlyargs:=[],kw_defaults:=[],kwarg:=none,defaults:=[] }
def defBody (s:Stmt):List Stmt:=match s with
 | .FunctionDef _ _ b _ _ _ _ _ _ _=>b
 | _=>[]
def defScope (s:Stmt):Scope:=match s with
 | .FunctionDef _ _ _ _ _ _ sc _ _ _=>sc
 | _=>{ kind:=.function,names:=[],isGenerator:=false,isCoroutine:=false }
abbrev CX0:CXT:=fun _ _ _ _ _ _=>False
abbrev E0:XK:=fun _ _ _=>False
theorem aH {X:Cx}:mH CX0 X E0:=fun _ _ _ _ _ _ _ h=>h.elim
structure Fun (K:PySem.W.Frag) (x qual:Str) (st:Stmt) (f:Addr) (fd:FuncData):Prop where
 ex : ∃ (oc:Value) (od:Option Addr) (kV doc pm:Value) (an:Option Addr) (cdv ct:Value) (osl:Array (Option Value)),
  fd=PySem.W.fnOf x qual (defArgs st) (defBody st) (defScope st) .none kV doc pm an cdv ct∧K.lookup f=some ⟨oc,od,.func fd,osl⟩∧PySem.W.codeIn K cdv qual=true
 kp:PySem.W.keepIn K (.ref f)=true
section
variable {P:Program} {w:World} {K:PySem.W.Frag} {mg:Str→Option Value} {base:Heap}
theorem Fun.ok {x qual:Str} {st:Stmt} {f:Addr} {fd:FuncData} {N ps:List Str} {k:Nat} {sp:Sp} (F:Fun K x qual st f fd) (S:aC N ps (defScope st)) (len : ∀ vs H Q E,sp vs H Q E→vs.length=ps.length)
  (hbody : ∀ (cdv:Value) (A:Around) (outer:List Env) (s:Shared) (H:Hp) (vs:List V) (Q:VK) (E:XK),dN k (A.deeper (envOfC qual (defScope st) s.heap.objs.size f cdv))→sp vs H Q E →
   ∃ t,PSs (gj CX0 P w K mg base N qual (defScope st) f cdv A outer s H E).nox (defBody st) t∧t { nx:=fun _ H'=>Q .non H',rt:=Q } (start N vs) H):aX P w K mg base CX0 (k + 1) f fd ps sp:=by
 obtain ⟨oc,od,kV,doc,pm,an,cdv,ct,osl,rfl,lk,hcd⟩:=F.ex
 refine Hk lk hcd S len fun A outer s H vs Q E hr hsp=>?_
 obtain ⟨t,h,q⟩:=hbody cdv A outer s H vs Q E hr hsp
 exact ⟨t,h.nox,q⟩
theorem Fun.binds {x qual:Str} {st:Stmt} {f:Addr} {fd:FuncData} {ps:List Str} (F:Fun K x qual st f fd)
  (h : ∀ (kV doc pm:Value) (an:Option Addr) (cdv ct:Value) (us:List Value),us.length=ps.length→bindArgs (PySem.W.fnOf x qual (defArgs st) (defBody st) (defScope st) .none kV doc pm an cdv ct) ⟨us,[]⟩=pure (ps.zip us)):Binds K fd ps []:=by
 obtain ⟨oc,od,kV,doc,pm,an,cdv,ct,osl,rfl,lk,hcd⟩:=F.ex
 exact .all (h kV doc pm an cdv ct)
theorem vP {x qual:Str} {st:Stmt} {f:Addr} {oc:Value} {od an:Option Addr} {osl:Array (Option Value)} {kV doc pm cdv ct:Value} (l:K.lookup f=some ⟨oc,od,.func (PySem.W.fnOf x qual (defArgs st) (defBody st) (defScope st) .none kV doc pm an cdv ct),osl⟩)
  (c:PySem.W.codeIn K cdv qual=true) (k:PySem.W.keepIn K (.ref f)=true):Fun K x qual st f (PySem.W.fnOf x qual (defArgs st) (defBody st) (defScope st) .none kV doc pm an cdv ct):=⟨⟨oc,od,kV,doc,pm,an,cdv,ct,osl,rfl,l,c⟩,k⟩
end
section
variable {X:Cx}
theorem pv (i:Nat) {x:Str} {pos:Pos} (hN:X.N[i]?=some x:=by rfl) (hv:Vis X.env.scope x:=by first | exact Or.inl rfl | exact Or.inr (Or.inl rfl) | exact Or.inr (Or.inr rfl)) (hd:(x == ("__debug__" : Str))=false:=by decide)
  (hcd:(x == ("__classdict__" : Str))=false:=by decide):PE X (.Name x pos) (Im i):=wI hN hv hd hcd
end
theorem cW {A B:Prop} (h:B):if false=true then A else B:=by
 rw [if_neg Bool.false_ne_true]
 exact h
theorem fK {A B:Prop} (h:A):if true=true then A else B:=by
 rw [if_pos rfl]
 exact h
theorem aO {c A B:Prop} [Decidable c] (h1:c→A) (h2 : ¬ c→B):if c then A else B:=by
 by_cases h:c
 ·rw [if_pos h]
  exact h1 h
 ·rw [if_neg h]
  exact h2 h
theorem uZ {c A B:Prop} [Decidable c] (hc:c) (h:B):if (!decide c)=true then A else B:=by
 rw [decide_eq_true hc]
 exact cW h
def aR (H H':Hp):Prop := ∀ b o,H b=some o→H' b=some o
theorem aR.refl (H:Hp):aR H H:=fun _ _ h=>h
theorem aR.trans {H H1 H2:Hp} (a:aR H H1) (b:aR H1 H2):aR H H2:=fun c o h=>b c o (a c o h)
theorem aR.free {H H':Hp} (e:aR H H') {l:Addr} (h:H' l=Option.none):H l=Option.none:=by
 cases q:H l with
 | none=>rfl
 | some o =>
  rw [e l o q] at h
  cases h
theorem aR.seq {K:PySem.W.Frag} {H H':Hp} {a:Addr} {xs:List V} (e:aR H H') (h:SqL K H a xs):SqL K H' a xs:=by
 rcases h with (h | ⟨o,h⟩) | h
 ·exact .inl (.inl (e _ _ h))
 ·exact .inl (.inr ⟨o,e _ _ h⟩)
 ·exact .inr h
end L2
set_option maxHeartbeats 4000000
set_option Elab.async false
set_option linter.all false
set_option maxRecDepth 100000
set_option maxHeartbeats 4000000
namespace Tw
open PySem L2
theorem aA {H:Hp} {p:Addr} (h:H p=none) (o:HO):aR H (upd H p o):=fun b u q=>by rw [aJ (aN q h)]; exact q
theorem bG {H H':Hp} {p:Addr} (s:aR H H') (h:H p=none) (o:HO):aR H (upd H' p o):=fun b u q=>by rw [aJ (aN q h)]; exact s b u q
theorem small {n:Nat} (h:n≤4097):n < sizeLine:=Nat.lt_of_le_of_lt h (by decide)
theorem bW:bootBuiltins "len" = some (.builtin "len"):=by decide +kernel
theorem HH:bootBuiltins "sum" = some (.builtin "sum"):=by decide +kernel
theorem iQ:bootBuiltins "isinstance" = some (.builtin "isinstance"):=by decide +kernel
theorem mZ:bootBuiltins "min" = some (.builtin "min"):=by decide +kernel
theorem Gd:bootBuiltins "max" = some (.builtin "max"):=by decide +kernel
theorem wN:bootBuiltins "int" = some (.type "int"):=by decide +kernel
theorem Br:bootBuiltins "bool" = some (.type "bool"):=by decide +kernel
theorem rz:bootBuiltins "list" = some (.type "list"):=by decide +kernel
theorem yr:bootBuiltins "tuple" = some (.type "tuple"):=by decide +kernel
theorem ie:bootBuiltins "reversed" = some (.type "reversed"):=by decide +kernel
theorem HR:bootBuiltins "set" = some (.type "set"):=by decide +kernel
theorem HN:bootBuiltins "zip" = some (.type "zip"):=by decide +kernel
theorem Bl (ns:List Int) (i j:Nat):gM (ns.map V.int) (some (i:Int)) (some (j:Int))=((ns.drop i).take (j - i)).map V.int:=by
 unfold gM
 rw [HT.jn,HT.jn,List.map_take,List.map_drop,List.length_map]
 rcases Nat.lt_or_ge ns.length i with h | h
 ·rw [Nat.min_eq_right (Nat.le_of_lt h),List.drop_of_length_le (by simp),List.drop_of_length_le (by simp; omega)]
  simp
 ·rw [Nat.min_eq_left h]
  rcases Nat.lt_or_ge ns.length j with q | q
  ·rw [Nat.min_eq_right (Nat.le_of_lt q),List.take_of_length_le (by simp),List.take_of_length_le (by simp; omega)]
  ·rw [Nat.min_eq_left q]
theorem vZ (ns:List Int) (j:Nat):gM (ns.map V.int) none (some (j:Int))=(ns.take j).map V.int:=by
 unfold gM
 rw [HT.jn,HT.yL,List.map_take,List.length_map,List.drop_zero,Nat.sub_zero]
 rcases Nat.lt_or_ge ns.length j with q | q
 ·rw [Nat.min_eq_right (Nat.le_of_lt q),List.take_of_length_le (by simp),List.take_of_length_le (by simp; omega)]
 ·rw [Nat.min_eq_left q]
theorem zb (ns:List Int) (i:Nat):gM (ns.map V.int) (some (i:Int)) none=(ns.drop i).map V.int:=by
 unfold gM
 rw [HT.jn,HT.yL,List.map_drop,List.length_map]
 rcases Nat.lt_or_ge ns.length i with h | h
 ·rw [Nat.min_eq_right (Nat.le_of_lt h),List.drop_of_length_le (by simp),List.drop_of_length_le (by simp; omega)]
  simp
 ·rw [Nat.min_eq_left h,List.take_of_length_le (by simp)]
theorem int_at {ns:List Int} {i:Nat} {x:V} (h:(ns.map V.int)[i]?=some x) : ∃ c,ns[i]?=some c∧x=.int c:=by
 rw [List.getElem?_map] at h
 cases e:ns[i]? with
 | none=>rw [e] at h; cases h
 | some c=>rw [e] at h; exact ⟨c,rfl,(Option.some.inj h).symm⟩
theorem ig {ns:List Int} {i:Nat} {c:Int} (h:ns[i]?=some c):atI (ns.map V.int) (i:Int)=some (.int c):=By (by rw [List.getElem?_map,h]; rfl)
structure Df (K:PySem.W.Frag) (mg:Str→Option Value) (x:Str) (st:Stmt) (ps:List Str) (f:Addr) (fd:FuncData):Prop where
 F:Fun K x x st f fd
 b:Binds K fd ps []
 m:mg x=some (.ref f)
end Tw
set_option Elab.async false
set_option linter.all false
set_option maxRecDepth 100000
set_option maxHeartbeats 4000000
namespace Tw
def bit (b:Int) (k:Nat):Int:=b / 2 ^ k % 2
def bits (b:Int) (n:Nat):List Int:=(List.range n).map (bit b)
def ones (b:Int) (n:Nat):Int:=(bits b n).sum
theorem bY (b:Int) (n:Nat):(bits b n).length=n:=by simp [bits]
theorem Cp (b:Int) (n:Nat):bits b (n + 1)=bits b n ++ [bit b n]:=by simp [bits,List.range_succ]
theorem pC (b:Int):ones b 0=0:=rfl
theorem lG (b:Int) (n:Nat):ones b (n + 1)=ones b n + bit b n:=by
 unfold ones; rw [Cp]; simp
theorem oJ {b:Int} {n k:Nat} (h:k < n):(bits b n)[k]?=some (bit b k):=by simp [bits,h]
theorem Dt (b:Int) (k:Nat):bit b k=0∨bit b k=1:=by
 unfold bit
 omega
end Tw
set_option Elab.async false
set_option linter.all false
set_option maxRecDepth 100000
set_option maxHeartbeats 4000000
namespace Tw
def aU (ns:List Int):Prop := ∀ b∈ns,b=0∨b=1
theorem aU.tail {b:Int} {ns:List Int} (h:aU (b :: ns)):aU ns:=fun x hx=>h x (.tail _ hx)
theorem aU.head {b:Int} {ns:List Int} (h:aU (b :: ns)):b=0∨b=1:=h b (.head _)
theorem aU.take {ns:List Int} (h:aU ns) (k:Nat):aU (ns.take k):=fun x hx=>h x (List.mem_of_mem_take hx)
theorem aU.drop {ns:List Int} (h:aU ns) (k:Nat):aU (ns.drop k):=fun x hx=>h x (List.mem_of_mem_drop hx)
def blk:List Int→Int
 | []=>0
 | b :: r=>2 * blk r + b
theorem rR : ∀ {ns:List Int},aU ns→0≤blk ns
 | [],_=>by simp [blk]
 | b :: r,h=>by
  have:=rR h.tail
  have:=h.head
  simp only [blk]
  omega
theorem yf (b:Int):bit b 0=b % 2:=by simp [bit]
theorem vI (b:Int) (k:Nat):bit b (k + 1)=bit (b / 2) k:=by
 unfold bit
 rw [Int.ediv_ediv_of_nonneg (by decide),← Int.pow_succ']
theorem qY : ∀ {ns:List Int},aU ns → ∀ k:Nat,bit (blk ns) k=(ns[k]?).getD 0
 | [],_,k=>by simp [blk,bit]
 | b :: r,h,0=>by
  have:=h.head
  rw [yf]
  simp only [blk,List.getElem?_cons_zero,Option.getD_some]
  omega
 | b :: r,h,k + 1=>by
  have hb:=h.head
  rw [vI,List.getElem?_cons_succ]
  have e:blk (b :: r) / 2=blk r:=by simp only [blk]; omega
  rw [e]
  exact qY h.tail k
theorem lC {ns:List Int} (h:aU ns) : ∀ k:Nat,ones (blk ns) k=(ns.take k).sum
 | 0=>by simp [pC]
 | k + 1=>by
  rw [lG,lC h k,qY h]
  by_cases hk:k < ns.length
  ·rw [List.take_add_one,List.getElem?_eq_getElem hk]
   simp only [Option.toList_some,List.sum_append,List.sum_cons,List.sum_nil,Option.getD_some]
   omega
  ·rw [List.take_of_length_le (by omega),List.take_of_length_le (by omega),List.getElem?_eq_none (by omega)]
   simp
def many (n:Nat):Nat:=(n + 31) / 32
def bK (ns:List Int) (j:Nat):Int:=blk ((ns.drop (32 * j)).take 32)
def cJ (ns:List Int):List Int:=(List.range (many ns.length)).map (bK ns)
theorem bA (ns:List Int):(cJ ns).length=many ns.length:=by simp [cJ]
theorem gn {ns:List Int} {j:Nat} (h:j < many ns.length):(cJ ns)[j]?=some (bK ns j):=by simp [cJ,h]
theorem oG {ns:List Int} (h:aU ns) (j:Nat):aU ((ns.drop (32 * j)).take 32):=(h.drop _).take _
theorem bit_at {ns:List Int} (h:aU ns) (j k:Nat) (hk:k < 32):bit (bK ns j) k=(ns[32 * j + k]?).getD 0:=by
 unfold bK
 rw [qY (oG h j),List.getElem?_take_of_lt hk,List.getElem?_drop]
def unp (bs:List Int):List Int:=bs.flatMap fun b=>bits b 32
theorem Ga (bs:List Int) (b:Int):unp (bs ++ [b])=unp bs ++ bits b 32:=by simp [unp]
theorem uf : ∀ bs:List Int,(unp bs).length=32 * bs.length
 | []=>rfl
 | b :: r=>by
  have:=uf r
  simp only [unp,List.flatMap_cons,List.length_append,bY,List.length_cons] at this ⊢
  omega
theorem Bx : ∀ (bs:List Int) (i:Nat),(unp bs)[i]?=(bs[i / 32]?).map fun b=>bit b (i % 32)
 | [],i=>by simp [unp]
 | b :: r,i=>by
  show (bits b 32 ++ unp r)[i]?=_
  by_cases hi:i < 32
  ·rw [List.getElem?_append_left (by rw [bY]; exact hi),oJ hi]
   have e1:i / 32=0:=by omega
   have e2:i % 32=i:=by omega
   rw [e1,e2]
   rfl
  ·rw [List.getElem?_append_right (by rw [bY]; omega),bY,Bx r (i - 32)]
   have e1:i / 32=(i - 32) / 32 + 1:=by omega
   have e2:i % 32=(i - 32) % 32:=by omega
   rw [e1,e2,List.getElem?_cons_succ]
theorem Do {ns:List Int} (h:aU ns):(unp (cJ ns)).take ns.length=ns:=by
 refine List.ext_getElem? fun i=>?_
 by_cases hi:i < ns.length
 ·rw [List.getElem?_take_of_lt hi,Bx,gn (by unfold many; omega)]
  rw [Option.map_some,bit_at h _ _ (by omega)]
  have e:32 * (i / 32) + i % 32=i:=by omega
  rw [e,List.getElem?_eq_getElem hi]
  rfl
 ·rw [List.getElem?_eq_none (by rw [List.length_take]; omega),List.getElem?_eq_none (by omega)]
def net (b:Int) (k:Nat):Int:=2 * ones b k - k
theorem Fd (b:Int):net b 0=0:=by simp [net,pC]
theorem xO (b:Int) (k:Nat):net b (k + 1)=net b k + 2 * bit b k - 1:=by
 unfold net
 rw [lG]
 omega
def nets (b:Int) (n:Nat):List Int:=(List.range n).map fun k=>net b (k + 1)
theorem cQ (b:Int) (n:Nat):(nets b n).length=n:=by simp [nets]
theorem CN (b:Int) (n:Nat):nets b (n + 1)=nets b n ++ [net b (n + 1)]:=by simp [nets,List.range_succ]
theorem nR {b:Int} {n k:Nat} (h:k < n):(nets b n)[k]?=some (net b (k + 1)):=by simp [nets,h]
theorem yX {b:Int} {n:Nat} {x:Int}:x∈nets b n ↔ ∃ k,1≤k∧k≤n∧x=net b k:=by
 unfold nets
 rw [List.mem_map]
 constructor
 ·rintro ⟨k,hk,rfl⟩
  exact ⟨k + 1,by omega,by have:=List.mem_range.mp hk; omega,rfl⟩
 ·rintro ⟨k,h1,h2,rfl⟩
  refine ⟨k - 1,List.mem_range.mpr (by omega),?_⟩
  have e:k - 1 + 1=k:=by omega
  rw [e]
def ht (ns:List Int) (k:Nat):Int:=2 * (ns.take k).sum - k
theorem eU (ns:List Int):ht ns 0=0:=by simp [ht]
theorem dC {ns:List Int} {k:Nat} {b:Int} (h:ns[k]?=some b):ht ns (k + 1)=ht ns k + 2 * b - 1:=by
 unfold ht
 rw [List.take_add_one,h]
 simp only [Option.toList_some,List.sum_append,List.sum_cons,List.sum_nil]
 omega
theorem m8 (ns:List Int) (a k:Nat):(ns.take (a + k)).sum=(ns.take a).sum + ((ns.drop a).take k).sum:=by
 rw [List.take_add,List.sum_append]
theorem iW {ns:List Int} (h:aU ns) (j k:Nat) (hk:k≤32):ht ns (32 * j + k)=ht ns (32 * j) + net (bK ns j) k:=by
 unfold ht net bK
 rw [lC (oG h j),m8,List.take_take,Nat.min_eq_left hk]
 omega
theorem Be {ns:List Int} (h:aU ns) (j k:Nat) (hk:k≤32):ones (bK ns j) k=((ns.drop (32 * j)).take k).sum:=by
 unfold bK
 rw [lC (oG h j),List.take_take,Nat.min_eq_left hk]
theorem lE {ns:List Int} (h:aU ns) (j k:Nat) (hk:k≤32):(ns.take (32 * j)).sum + ones (bK ns j) k=(ns.take (32 * j + k)).sum:=by
 rw [Be h j k hk,m8]
def Due (b:Int) (st sp:Nat) (g:Int) (k:Nat):Prop:=st < k∧k≤sp∧net b k≤g
theorem DW (b:Int) (n:Nat):bits b (n + 1)=b % 2 :: bits (b / 2) n:=by
 unfold bits
 rw [List.range_succ_eq_map,List.map_cons,yf,List.map_map]
 congr 1
 refine List.map_congr_left fun k _=>?_
 exact vI b k
theorem xP : ∀ (n:Nat) (b:Int),0≤b→b < 2 ^ n→blk (bits b n)=b
 | 0,b,h0,h1=>by
  have:b=0:=by simp at h1; omega
  subst this
  rfl
 | n + 1,b,h0,h1=>by
  rw [Int.pow_succ] at h1
  rw [DW,blk,xP n (b / 2) (by omega) (by omega)]
  omega
theorem yq (b:Int) (n:Nat):aU (bits b n):=fun x hx=>by
 obtain ⟨k,_,rfl⟩:=List.mem_map.mp hx
 exact Dt b k
end Tw
set_option Elab.async false
set_option linter.all false
set_option maxRecDepth 100000
set_option maxHeartbeats 4000000
namespace L2
open PySem PySem.Spec PyProof.Rows
section
variable {X:Cx} {pins:List (Addr × Obj)} {σ:St} {H:Hp} {s:Shared} {h':Heap}
theorem Inv.turn2 {e it p:Addr} {o:HO} {t':Nat} (I:Inv X pins σ H s) (fe:jq X pins H e) (fi:jq X pins H it)
  (k : ∀ b u,b ≠ e→b ≠ it→s.heap.get? b=some u→h'.get? b=some u) (hp:s.heap.objs.size≤p)
  (new:cD X.prog X.w (upd H p o) h' p o):Inv X pins σ (upd H p o) { s with heap:=h',toks:=t' }:=by
 have hn:=I.hok.fresh hp
 have ne : ∀ b u,H b=some u→b ≠ e:=fun b u q z=>by rw [z,fe.1] at q; cases q
 have ni : ∀ b u,H b=some u→b ≠ it:=fun b u q z=>by rw [z,fi.1] at q; cases q
 have up : ∀ b u,H b=some u→upd H p o b=some u:=fun b u q=>by rw [aJ (aN q hn)]; exact q
 have k' : ∀ b u,b ∉ [e,it]→s.heap.get? b=some u→h'.get? b=some u:=fun b u hb q=>k b u (fun z=>hb (by simp [z])) (fun z=>hb (by simp [z])) q
 refine I.step (g':=s.gens) (d':=s.drawn) (ch:=[e,it]) (fun b hb=>?_) (fun b u _ _ hx q _=>k' b u hx q) (fun b u _ _ hx q _=>⟨u.slots,k' b u hx q⟩)
  (fun b u _ q n=>by rw [aJ (Nat.ne_of_lt (Nat.lt_of_lt_of_le (Heap.lt_size q) hp))]; exact n) (fun b u hx q=>⟨u,k' b u hx q⟩)
  (fun b xs q=>up _ _ q) (fun b ob u q=>up _ _ q) (fun b ps q=>⟨#[],by rw [up _ _ q]; simp⟩) (fun m hm=>?_) (fun b u q=>?_) I.bare
 ·rcases List.mem_cons.mp hb with rfl | hb
  ·exact ⟨fe.2.2.2.1,fe.2.1,fe.2.2.2.2.1,fe.2.2.2.2.2⟩
  ·rw [List.mem_singleton.mp hb]
   exact ⟨fi.2.2.2.1,fi.2.1,fi.2.2.2.2.1,fi.2.2.2.2.2⟩
 ·obtain ⟨ob,es,ep,ho,r⟩:=hm
  exact ⟨ob,es,ep,k _ ob (Ne.symm fe.2.1) (Ne.symm fi.2.1) ho,r⟩
 ·by_cases hb:b=p
  ·subst hb
   rw [az] at q
   cases q
   exact new
  ·rw [aJ hb] at q
   refine (I.hok b u q).stay (fun c v hc r=>k c v ?_ ?_ r) (fun c r=>up _ _ r) fun c xs r=>up _ _ r
   ·rcases hc with rfl | z
    ·exact ne _ _ q
    ·exact ne _ _ z
   ·rcases hc with rfl | z
    ·exact ni _ _ q
    ·exact ni _ _ z
end
def Ite (K:PySem.W.Frag) (a:Addr):It :=
  ⟨fun i H => ∃ xs x,SqL K H a xs∧xs[i]?=some x,fun i H x H' => ∃ p y,H p=none∧x=.ref p∧H'=upd H p (.tup [.int (i:Int),y]) ∧ ∀ xs,SqL K H a xs→xs[i]?=some y,
   fun i H => ∃ xs,SqL K H a xs∧xs.length≤i⟩
theorem CT {P:Program} {w:World} {K:PySem.W.Frag} {elts:List Expr} {x1:Nat} {tpos:Pos} (a e it:Addr) (hne:e ≠ it) :
  Turn P w K (.Tuple elts x1 tpos) (Ite K a) [e,it] e (fun i h=>(∃ old,IsEnum h e it (i:Nat) old)∧h.IsListIter it a i) where
 mem:=by simp
 obj:=fun i h st b hb=>by
  obtain ⟨⟨old,he⟩,o,ho,hc,hd⟩:=st
  rcases List.mem_cons.mp hb with rfl | hb
  ·exact ⟨_,he,fun v z=>by cases z⟩
  ·rw [List.mem_singleton.mp hb]
   exact ⟨o,ho,fun v z=>by rw [hd] at z; cases z⟩
 keep:=fun i h h' st k=>by
  obtain ⟨⟨old,he⟩,st⟩:=st
  exact ⟨⟨old,k e (by simp) _ he⟩,st.at fun o q=>k it (by simp) o q⟩
 item:=by
  intro X hP hw hK hc i pins s σ H E I hf st hg
  subst hP hw hK
  obtain ⟨xs,x,hq,hx⟩:=hg
  obtain ⟨its,rv,p,hz⟩:=I.list hq
  obtain ⟨u,hu,ru⟩:=rv.get hx
  obtain ⟨⟨old,he⟩,st⟩:=st
  refine wpAny_pyNext_enum_item he st p.isList (x:=u) (by simpa using hu) hne fun h1 heo hit1 ht1 hz1 hk1=>?_
  refine ⟨_,rfl,wpAny_letOwnedTupleGo_enum heo fun h2 he2 hs2=>?_⟩
  have ee:e < s.heap.objs.size:=Heap.lt_size he
  have g2:h2.get? s.heap.objs.size=some { cls:=.type "tuple", data:=.seq #[.int (i:Int) s.toks,u] }:=(hs2.2 _ (Nat.ne_of_gt ee)).trans ht1
  have kk : ∀ b o,b ≠ e→b ≠ it→s.heap.get? b=some o→h2.get? b=some o:=fun b o h3 h4 q=>(hs2.2 b h3).trans (hk1 b o h3 h4 q)
  have new:cD X.prog X.w (upd H s.heap.objs.size (.tup [.int (i:Int),x])) h2 s.heap.objs.size (.tup [.int (i:Int),x]) :=
   ⟨(by show 2≤sizeLine; decide),[.int (i:Int) s.toks,u],.cons ⟨_,rfl⟩ (.cons ru .nil),_,g2,rfl,_,rfl⟩
  have I2:=I.turn2 (h':=h2) (t':=s.toks + 1) (hf e (by simp)) (hf it (by simp)) kk (Nat.le_refl _) new
  have hn:H s.heap.objs.size=none:=I.hok.fresh (Nat.le_refl _)
  refine ⟨.ref s.heap.objs.size,_,I2,rfl,⟨_,x,hn,rfl,rfl,fun ys hy=>by rw [I.list_inj hy hq]; exact hx⟩,⟨⟨u,by simpa using he2⟩,hit1.extBut hs2.extBut (Ne.symm hne)⟩,fun b hb=>?_⟩
  have hbn:=(hf b hb).1
  have hbs:b ≠ s.heap.objs.size:=by
   obtain ⟨o,hio,_⟩:=st
   rcases List.mem_cons.mp hb with rfl | hb
   ·exact Nat.ne_of_lt ee
   ·rw [List.mem_singleton.mp hb]
    exact Nat.ne_of_lt (Heap.lt_size hio)
  rw [aJ hbs]
  exact hbn
 done:=by
  intro X hP hw hK hc i pins s σ H E I hf st hg
  subst hP hw hK
  obtain ⟨xs,hq,hx⟩:=hg
  obtain ⟨its,rv,p,hz⟩:=I.list hq
  obtain ⟨f0,f1,f2,f3,f4,f5⟩:=hf it (by simp)
  obtain ⟨⟨old,he⟩,st⟩:=st
  have hl:=rv.length
  exact wpAny_pyNext_enum_end (I.ok.hd hc) he st p.isList (by simp; omega) fun h' eb=>⟨rfl,I.turned (t':=s.toks) (fun b o hb q=>eb b o hb q) f0 f1 f3 f4 f5⟩
 self:=fun _ _ _ _ _ st h=>by
  obtain ⟨⟨old,he⟩,_⟩:=st
  exact wpAny_pyIter_enum he h
section
variable {X:Cx}
def JD (K:PySem.W.Frag) (ta:TA):TI:=fun σ H R=>ta σ H fun vs H1 => ∃ a xs,vs=[.ref a]∧SqL K H1 a xs∧R (Ite K a) H1
theorem wk {a:Expr} {ta:TA} {p pos:Pos} {elts:List Expr} {x1:Nat} {tpos:Pos} (hg:Gl X "enumerate") (hm:X.mg "enumerate" = none) (ha:PA X [a] ta) (hs:starEach [a] X.env=[(false,eval a X.env)]:=by rfl) :
  PI X (.Tuple elts x1 tpos) (.Call (.Name "enumerate" p) [a] [] pos) (JD X.K ta):=by
 intro pins s σ H R I h
 refine Call_ (eO I hg hm boot_enumerate (PyProof.Rows.callWith_type1 (thn (ha pos pins s σ H _ I h) fun us s1 ⟨vs,H1,I1,r1,q1⟩=>?_) hs rfl))
 obtain ⟨b,xs,e,hq,q⟩:=q1
 subst e
 obtain ⟨u,rfl,rx⟩:=vals1 r1
 cases rx
 obtain ⟨its,rv,pl,hz⟩:=I1.list hq
 refine call_enumerate_list pl.isList fun h' he hit hsz hk=>?_
 refine wpAny_pyIter_enum he ?_
 have I2:Inv X pins σ H1 { s1 with heap:=h' }:=I1.kept (t':=s1.toks) hk
 have ne:s1.heap.objs.size + 1 ≠ s1.heap.objs.size:=by omega
 refine ⟨s1.heap.objs.size + 1,[s1.heap.objs.size + 1,s1.heap.objs.size],_,Ite X.K b,H1,rfl,I2,CT b _ _ ne,⟨⟨_,he⟩,hit⟩,fun c hc=>?_,q⟩
 have hle:s1.heap.objs.size≤c:=by
  rcases List.mem_cons.mp hc with rfl | hc
  ·omega
  ·rw [List.mem_singleton.mp hc]
   omega
 exact I1.fpOk hle (I1.hok.fresh hle)
end
theorem yM {K:PySem.W.Frag} {a:Addr} {xs:List V} {g:TG} {tb:TS} {D:Ends} {σ:St} {H:Hp} (Pv:Nat→St→Hp→Prop) (h0:Pv 0 σ H) (hl : ∀ i σ H,i≤xs.length→Pv i σ H→SqL K H a xs)
  (hs : ∀ i x σ H p,xs[i]?=some x→Pv i σ H→H p=none→g (.ref p) σ (upd H p (.tup [.int (i:Int),x])) fun σ2 H2=>tb { D with nx:=Pv (i + 1),ct:=Pv (i + 1),bk:=D.nx } σ2 H2) (hd : ∀ σ H,Pv xs.length σ H→D.nx σ H) :
  ∃ W:Nat→Nat→St→Hp→Prop,(∃ m,W 0 m σ H) ∧ ∀ i m σ H,W i m σ H →
   ((Ite K a).stop i H∧D.nx σ H)∨((Ite K a).go i H ∧ ∃ N:St→Hp→Prop,(∀ σ' H',N σ' H' → ∃ m',m' < m∧W (i + 1) m' σ' H') ∧ ∀ x H',(Ite K a).yld i H x H'→g x σ H' fun σ2 H2=>tb { D with nx:=N,ct:=N,bk:=D.nx } σ2 H2):=by
 refine ⟨fun i m σ H=>m=xs.length - i∧i≤xs.length∧Pv i σ H,⟨xs.length,by simp,Nat.zero_le _,h0⟩,?_⟩
 rintro i m σ H ⟨rfl,hi,p⟩
 have q:=hl i σ H hi p
 by_cases hlt:i < xs.length
 ·refine .inr ⟨⟨xs,xs[i],q,by simp [hlt]⟩,Pv (i + 1),fun σ' H' p'=>⟨xs.length - (i + 1),by omega,rfl,hlt,p'⟩,fun x H' y=>?_⟩
  obtain ⟨c,y,hn,e1,e2,hy⟩:=y
  subst e1 e2
  exact hs i y σ H c (hy xs q) p hn
 ·have e:i=xs.length:=by omega
  subst e
  exact .inl ⟨⟨xs,q,Nat.le_refl _⟩,hd σ H p⟩
section
variable {X:Cx}
theorem Fg (hc:X.calm=true):jj X (.builtin "sum") (fun xs H Q => ∃ (p:Addr) (ns:List Int),xs=[.ref p]∧SqL X.K H p (ns.map V.int)∧Q (.int ns.sum) H):=by
 intro pins s σ H xs us Q I r h
 obtain ⟨p,ns,rfl,hq,q⟩:=h
 obtain ⟨u,rfl,rx⟩:=vals1 r
 cases rx
 obtain ⟨its,r',pl,hz⟩:=I.list hq
 have hi:=intsAre_of r'
 obtain ⟨zs,e⟩:=hi.allInts.items
 refine sum_intListG (xs:=zs) (I.ok.hd hc) (by rw [← e]; exact pl.isList) fun h' tk t' hk=>⟨.int ns.sum,H,I.kept (t':=tk) hk,⟨t',?_⟩,q⟩
 have e2:numsOf (intItems zs).toList=ns:=by rw [← e]; exact hi.numsOf
 rw [nums_intItems] at e2
 rw [← e2,preSum_eq,List.take_of_length_le (by simp)]
theorem tU:jj X (.builtin "isinstance") (fun xs H Q => ∃ x T t b,xs=[x,.ty T]∧oR X.K H x t∧PySem.W.kitOne X.K t (.type T)=some b∧Q (.bl b) H):=by
 intro pins s σ H xs us Q I r h
 obtain ⟨x,T,t,b,rfl,ty,e,q⟩:=h
 obtain ⟨u,v,rfl,rx,rv⟩:=vals2 r
 obtain rfl:v=Value.type T:=rv
 exact Dm I rx ty e fun tk=>⟨.bl b,H,I.tok tk,rfl,q⟩
end
end L2
set_option Elab.async false
set_option linter.all false
set_option maxRecDepth 100000
set_option maxHeartbeats 4000000
namespace L2
open PySem PySem.Spec PyProof.Rows
def bM (X:Cx) (N:List Str) (scope:Scope) (cl:List (Str × Addr)) (C:Addr) (s:Shared) (H:Hp) (fp:List Addr):Cx :=
 { X with N:=N,s₀:=s,H₀:=H,env:=compEnvC scope cl C X.env,outer:=X.stack,ex:=fp,fn:=fun _=>false,pn:=[],xe:=fun _ _=>False }
structure fj (X:Cx) (x:Str) (caps:List (Str × Nat)) (scope:Scope) (cl:List (Str × Addr)):Prop where
 kind:scope.kind=.function
 nocell : ∀ y∈scope.names,y.2 ≠ .cell
 names : ∀ y∈scope.names,y.2=.local→scope.names.lookup y.1=some .local
 hx:scope.names.lookup x=some .local
 clos:closureFor scope X.env=pure cl
 cls : ∀ y c,cl.lookup y=some c→X.env.cells.lookup y=some c
 has : ∀ y,((relabel scope X.env).names.lookup y=some .cell∨(relabel scope X.env).names.lookup y=some .free) → ∃ c,cl.lookup y=some c
 nd:(x :: caps.map (·.1)).Nodup
 cap : ∀ y j,(y,j)∈caps→X.N[j]?=some y∧(X.env.scope.names.lookup y=some .cell∨X.env.scope.names.lookup y=some .free) ∧
  ((relabel scope X.env).names.lookup y=some .cell∨(relabel scope X.env).names.lookup y=some .free)
def gh (caps:List (Str × Nat)) (σ:St):St:=caps.map fun p=>(σ[p.2]?).getD none
section
variable {X:Cx} {pins:List (Addr × Obj)} {σ:St} {H:Hp} {s:Shared}
theorem qm (caps:List (Str × Nat)) (σ:St):(gh caps σ).length=caps.length:=by simp [gh]
theorem Inv.comp {x:Str} {caps:List (Str × Nat)} {scope:Scope} {cl:List (Str × Addr)} {fp:List Addr} {h':Heap} {tk:Nat} {m:Str→Option Value} {D C:Addr} (I:Inv X pins σ H s) (K0:fj X x caps scope cl) (hf : ∀ b∈fp,jq X pins H b)
  (hfs : ∀ b∈fp,b < s.heap.objs.size) (hD:s.heap.objs.size≤D) (hC:s.heap.objs.size≤C) (hDC:D ≠ C) (hk : ∀ b o,s.heap.get? b=some o→h'.get? b=some o) (hn:h'.Ns C m) (hL:h'.get? D=some { cls:=.type "list", data:=.seq #[] }) :
  Inv (bM X (x :: caps.map (·.1)) scope cl C s H fp) [] (none :: gh caps σ) (upd H D (.lst [])) { s with heap:=h',toks:=tk }:=by
 have hnD:=I.hok.fresh hD
 have hnC:=I.hok.fresh hC
 have lkc : ∀ y c,(bM X (x :: caps.map (·.1)) scope cl C s H fp).env.cells.lookup y=some c→X.env.cells.lookup y=some c:=fun y c e=>K0.cls y c e
 have clt : ∀ y c,X.env.cells.lookup y=some c→c < s.heap.objs.size:=fun y c e=>by
  obtain ⟨v,q⟩:=I.cell y c e
  exact q.lt
 have up : ∀ b u,H b=some u→upd H D (.lst []) b=some u:=fun b u q=>by rw [aJ (aN q hnD)]; exact q
 have ok:(bM X (x :: caps.map (·.1)) scope cl C s H fp).Ok:=by
  refine ⟨I.ok.mod,K0.kind,I.ok.glob,I.ok.blt,hC,fun y z c h1 h2=>I.ok.inj y z c (lkc y c h1) (lkc z c h2),fun y hy=>K0.has y hy,fun y c h=>absurd (show false=true from h) Bool.false_ne_true,I.ok.hd,I.ok.frames,.inl rfl,fun b hb=>?_,I.bs,Nat.le_trans I.ok.bsz I.sz,fun b o e hb=>?_,fun b hb hz=>?_,I.stack,I.stkFree⟩
  ·obtain ⟨f0,f1,f2,f3,f4,f5⟩:=hf b hb
   exact ⟨Nat.ne_of_lt (Nat.lt_of_lt_of_le (hfs b hb) hC),fun y c e=>f4 y c (lkc y c e)⟩
  ·obtain ⟨f0,f1,f2,f3,f4,f5⟩:=hf b hb
   rcases f3 with z | z
   ·exact I.ok.noex b o e z
   ·exact absurd (Nat.lt_of_lt_of_le (Nat.lt_of_lt_of_le (Heap.lt_size e) I.ok.bsz) z) (Nat.lt_irrefl _)
  ·obtain ⟨f0,f1,f2,f3,f4,f5⟩:=hf b hb
   rcases List.mem_cons.mp (I.stkSub b hz) with z | z
   ·exact f1 z
   ·exact f2 z
 refine ⟨ok,rfl,I.bare,?_,⟨m,hn,fun i y v e1 e2 e3=>?_⟩,fun y c e=>?_,?_,fun y c e=>?_,fun p hp=>absurd (show p∈([]:List (Addr × Obj)) from hp) (by simp),?_,?_⟩
 ·exact Un.laid hk hD hnD
 ·cases i with
  | zero=>cases e2
  | succ i =>
   have e1':(caps.map (·.1))[i]?=some y:=e1
   have e2':(gh caps σ)[i]?=some (some v):=e2
   rw [List.getElem?_map] at e1'
   unfold gh at e2'
   rw [List.getElem?_map] at e2'
   cases ec:caps[i]? with
   | none=>rw [ec] at e1'; cases e1'
   | some p =>
    rw [ec] at e1' e2'
    obtain ⟨y',j⟩:=p
    have ey:y'=y:=Option.some.inj e1'
    subst ey
    have ev:(σ[j]?).getD none=some v:=Option.some.inj e2'
    have ev':σ[j]?=some (some v):=by
     cases q:σ[j]? with
     | none=>rw [q] at ev; cases ev
     | some w=>rw [q] at ev; exact congrArg some ev
    obtain ⟨c1,c2,c3⟩:=K0.cap y' j (List.mem_of_getElem? ec)
    obtain ⟨m0,hn0,hl⟩:=I.loc
    obtain ⟨u,r,l⟩:=hl j y' v c1 ev' (by rcases c2 with z | z; exact .inr (.inl z); exact .inr (.inr z))
    refine ⟨u,r,.inr ⟨c3,?_⟩⟩
    rcases l with ⟨k,_⟩ | ⟨k,c,ec,z⟩
    ·have k':X.env.scope.names.lookup y'=some .local:=k
     rcases c2 with z | z
     ·rw [z] at k'; cases k'
     ·rw [z] at k'; cases k'
    ·obtain ⟨c',hc'⟩:=K0.has y' c3
     have e4:=K0.cls y' c' hc'
     rw [ec] at e4
     cases e4
     obtain ⟨o,ho,hd⟩:=z
     exact ⟨c,hc',o,hk _ _ ho,hd⟩
 ·obtain ⟨v,o,ho,hd⟩:=I.cell y c (lkc y c e)
  exact ⟨v,o,hk _ _ ho,hd⟩
 ·show upd H D (.lst []) C=none
  rw [aJ (Ne.symm hDC)]
  exact hnC
 ·have hlt:=clt y c (lkc y c e)
  rw [aJ (Nat.ne_of_lt (Nat.lt_of_lt_of_le hlt hD))]
  exact I.freeC y c (lkc y c e)
 ·exact I.hok.laid hk hD ⟨Nat.zero_le _,[],_,.nil,hL⟩
 ·show (none :: gh caps σ).length=(x :: caps.map (·.1)).length
  simp [qm]
theorem Inv.comped {N:List Str} {scope:Scope} {cl:List (Str × Addr)} {fp:List Addr} {C:Addr} {s':Shared} {σ':St} {H':Hp} (I:Inv X pins σ H s) (hf : ∀ b∈fp,jq X pins H b)
  (J:Inv (bM X N scope cl C s H fp) [] σ' H' s'):Inv X pins σ H' s':=by
 refine I.call' (ch:=fp) (J.os.trans rfl) J.base J.hok J.bare fun b hb=>?_
 obtain ⟨f0,f1,f2,f3,f4,f5⟩:=hf b hb
 exact ⟨f3,f1,f4,f5⟩
def rK (J:It) (cap:St) (tt:TT) (te:TE) (Qf:Addr→Hp→Prop) (H:Hp):Prop :=
 ∀ D,H D=none → ∃ W:Nat→Nat→List V→Hp→Prop,(∃ m,W 0 m [] (upd H D (.lst []))) ∧ ∀ i m ys H1,W i m ys H1 →
  (J.stop i H1∧Qf D H1)∨(J.go i H1 ∧ ∀ v H2,J.yld i H1 v H2→tt (some v :: cap) H2 fun b H3=>if b=true then
   te (some v :: cap) H3 fun y H4=>H4 D=some (.lst ys)∧ys.length < sizeLine ∧ ∃ m',m' < m∧W (i + 1) m' (ys ++ [y]) (upd H4 D (.lst (ys ++ [y]))) else ∃ m',m' < m∧W (i + 1) m' ys H3)
def PTs (X:Cx) (ifs:List Expr) (tt:TT):Prop :=
 ∀ (pins:List (Addr × Obj)) (s:Shared) (σ:St) (H:Hp) (Q:Bool→Hp→Prop),Inv X pins σ H s→tt σ H Q →
  wpAny (model X.prog X.w) X.A (forIn ifs true fun c r=>if r=true then do let ok ← isTrue c X.env (eval c X.env); pure (ForInStep.yield ok) else pure (ForInStep.yield r)) (TP X pins σ Q) X.xe s
def G9:TT:=fun _ H Q=>Q true H
theorem qZ:PTs X [] G9:=fun _ _ _ H _ I h=>wpAny_tests_nil ⟨H,I,h⟩
theorem Ce {x:Str} {px pos:Pos} {caps:List (Str × Nat)} {scope:Scope} {cl:List (Str × Addr)} {elt iter:Expr} {ifs:List Expr} {J:It} {fp:List Addr} {it:Addr} {tn:Nat→Heap→Prop} {tt:TT} {te:TE} {Qf:Addr→Hp→Prop}
  {RR:Value→Addr→Result→Shared→Prop} {E:Value→Shared→Prop} (I:Inv X pins σ H s) (hc:X.calm=true) (K0:fj X x caps scope cl) (T:Turn X.prog X.w X.K (.Name x px) J fp it tn) (st:tn 0 s.heap) (hf : ∀ b∈fp,jq X pins H b)
  (ht : ∀ C s1 H1 fp1,PTs (bM X (x :: caps.map (·.1)) scope cl C s1 H1 fp1) ifs tt) (he : ∀ C s1 H1 fp1,PE (bM X (x :: caps.map (·.1)) scope cl C s1 H1 fp1) elt te) (rd:rK J (gh caps σ) tt te Qf H)
  (hRR : ∀ D C s' H' m,Inv X pins σ H' s'→s'.heap.Ns C m→jq X pins H' C→Qf D H'→RR (.ref D) C (.ok .next) s') :
  wpAny (model X.prog X.w) X.A (newList []) (fun acc s3=>wpAny (model X.prog X.w) X.A (newFunctionEnv scope X.env.globals cl [] X.env.qual none .none (some X.env)) (fun cenv s4 =>
   codeAny (model X.prog X.w) X.A (.compStart (.ListComp elt [⟨.Name x px,iter,ifs,0⟩] scope pos) 0 (.ref it) acc { cenv with scope:=relabel scope X.env }) (RR acc cenv.locals) s4) E s3) E s:=by
 have hfs : ∀ b∈fp,b < s.heap.objs.size:=fun b hb=>by
  obtain ⟨o,e,_⟩:=T.obj _ _ st b hb
  exact Heap.lt_size e
 refine wpAny_newObj_type (wpAny_newFunctionEnv K0.nocell (by intro y hy; simp at hy) (fun h1 hn1 hb1=>?_) K0.kind)
 dsimp only at hn1 hb1 ⊢
 obtain ⟨D,eD⟩ : ∃ D:Nat,D=s.heap.objs.size:=⟨_,rfl⟩
 obtain ⟨H2,eH2⟩ : ∃ g,g=s.heap.push { cls:=.type "list", dict:=none,data:=.seq ([]:List Value).toArray }:=⟨_,rfl⟩
 rw [← eH2] at hn1 hb1 ⊢
 rw [← eD]
 have hC:H2.objs.size=D + 1:=by rw [eH2,Heap.size_push,eD]
 have hle:s.heap.objs.size≤H2.objs.size:=by rw [hC,eD]; exact Nat.le_succ _
 have hDC:D ≠ H2.objs.size:=by rw [hC]; exact Nat.ne_of_lt (Nat.lt_succ_self _)
 have hk : ∀ b o,s.heap.get? b=some o→h1.get? b=some o:=fun b o e=>by
  refine hb1.extBut b o (Nat.ne_of_lt (Nat.lt_of_lt_of_le (Heap.lt_size e) hle)) (Heap.get?_push_of_some _ ?_)
  rw [eH2]
  exact Heap.get?_push_of_some _ e
 have hL:h1.get? D=some { cls:=.type "list", data:=.seq #[] }:=by
  refine hb1.extBut D _ (by omega) (Heap.get?_push_of_some _ ?_)
  rw [eH2,eD]
  exact Heap.get?_push_size _ rfl
 have st1:tn 0 h1:=T.keep _ _ _ st fun b _ o e=>hk b o e
 obtain ⟨W,⟨m0,w0⟩,turn⟩:=rd D (I.hok.fresh (by omega))
 have loop:codeAny (model X.prog X.w) X.A (.compLoop (.ListComp elt [⟨.Name x px,iter,ifs,0⟩] scope pos) 0 (.ref it) (.ref D) (compEnvC scope cl H2.objs.size X.env)) (RR (.ref D) H2.objs.size) { s with heap:=h1,toks:=s.toks + ([]:List (Str × Value)).length }:=by
  refine codeAny_compLoop_tests (fun n s' => ∃ i ys sl H',Inv (bM X (x :: caps.map (·.1)) scope cl H2.objs.size s H fp) [] (sl :: gh caps σ) H' s'∧tn i s'.heap∧(∀ b∈fp,H' b=none)∧W i n ys H') ?_ m0
   ⟨0,[],none,_,I.comp K0 hf hfs (by omega) (by omega) hDC hk hn1 hL,st1,fun b hb=>?_,w0⟩
  ·rintro n s3 ⟨i,ys,sl,H3,I3,st3,fr3,w3⟩
   have fpc : ∀ {H':Hp} {pi:List (Addr × Obj)},(∀ b∈fp,H' b=none)→(∀ p∈pi,p.1 ∉ fp) → ∀ b∈fp,jq (bM X (x :: caps.map (·.1)) scope cl H2.objs.size s H fp) pi H' b:=fun {H' pi} hn hp b hb=>by
    obtain ⟨f0,f1,f2,f3,f4,f5⟩:=hf b hb
    refine ⟨hn b hb,?_,fun z=>?_,.inl hb,fun y c e=>f4 y c (K0.cls y c e),fun p hpp z=>?_⟩
    ·exact Nat.ne_of_lt (Nat.lt_of_lt_of_le (hfs b hb) hle)
    ·rcases List.mem_cons.mp (I.stkSub b z) with q | q
     ·exact f1 q
     ·exact f2 q
    ·exact hp p (by simpa [bM] using hpp) (by rw [z]; exact hb)
   have clear : ∀ {α:Type} {t:Sem α} {Q:α→Shared→Prop} {E':Value→Shared→Prop} {s:Shared},wpAny (model X.prog X.w) X.A t Q (fun _ _=>False) s→wpAny (model X.prog X.w) X.A t Q E' s:=fun h=>wpAny_mono h (fun _ _ z=>z) fun _ _ z=>z.elim
   rcases turn i n ys H3 w3 with ⟨stop,qf⟩ | ⟨go,step⟩
   ·refine thn (T.done (bM X (x :: caps.map (·.1)) scope cl H2.objs.size s H fp) rfl rfl rfl hc i [] s3 _ H3 _ I3 (fpc fr3 (by simp)) st3 stop) fun r s4 ⟨hr,I4⟩=>?_
    subst hr
    obtain ⟨m4,hn4,_⟩:=id I4.loc
    refine hRR D _ s4 H3 m4 (I.comped hf I4) hn4 ?_ qf
    have gC:s.heap.objs.size≤H2.objs.size:=by omega
    exact I.fpOk gC I4.free
   ·refine clear (thn (T.item (bM X (x :: caps.map (·.1)) scope cl H2.objs.size s H fp) rfl rfl rfl hc i [] s3 _ H3 (fun _ _=>False) I3 (fpc fr3 (by simp)) st3 go) fun r s4 ⟨u,hr,h4⟩=>?_)
    subst hr
    refine clear (show wpAny (model X.prog X.w) X.A (pure () >>= fun _=>assign (.Name x px) (compEnvC scope cl H2.objs.size X.env) u) _ _ s4 from wpAny_bind (thn (h4:wpAny (model X.prog X.w) X.A (pure ()) _ _ s4) fun _ s5 ⟨v,H5,I5,r5,y5,st5,fr5⟩=>?_))
    have I5':=I5.pinned (fpc fr5 (by simp)) (T.obj _ _ st5)
    have hg:PG (bM X (x :: caps.map (·.1)) scope cl H2.objs.size s H fp) (.Name x px) (vq 0):=aV (i:=0) K0.nd rfl (Or.inl (lookup_relabel_local K0.hx)) (Or.inr (lookup_relabel_local K0.hx))
    refine thn (hg _ s5 (sl :: gh caps σ) H5 v u (fun σ2 H2=>σ2=some v :: gh caps σ∧H2=H5) I5' r5 (show _∧_ from ⟨rfl,rfl⟩)) fun _ s6 ⟨σ6,H6,I6,e6,e7⟩=>?_
    subst e6 e7
    have q6:=step v _ y5
    have again : ∀ {H7:Hp} {s7:Shared} {sl:Option V} {zs:List V} {m':Nat},Inv (bM X (x :: caps.map (·.1)) scope cl H2.objs.size s H fp) ([] ++ qe fp s5.heap) (sl :: gh caps σ) H7 s7→m' < n→W (i + 1) m' zs H7 →
      ∃ m,m < n ∧ ∃ i ys sl H',Inv (bM X (x :: caps.map (·.1)) scope cl H2.objs.size s H fp) [] (sl :: gh caps σ) H' s7∧tn i s7.heap∧(∀ b∈fp,H' b=none)∧W i m ys H':=fun {H7 s7 sl zs m'} I7 hm w7=>by
     refine ⟨m',hm,i + 1,zs,sl,H7,I7.unpinned,T.keep _ _ _ st5 fun b hb o e=>(I7.pin (b,o) (List.mem_append_right _ (List.mem_append_right _ (eZ hb e)))).1,fun b hb=>?_,w7⟩
     obtain ⟨o,e,d⟩:=T.obj _ _ st5 b hb
     exact (I7.pin (b,o) (List.mem_append_right _ (List.mem_append_right _ (eZ hb e)))).2.1
    refine clear (thn (ht H2.objs.size s H fp _ s6 _ H6 _ I6 q6) fun ok s7 ⟨H7,I7,q7⟩=>?_)
    cases ok with
    | false =>
     obtain ⟨m',hm,w7⟩:=(show ∃ m',m' < n∧W (i + 1) m' ys H7 from q7)
     exact again I7 hm w7
    | true =>
     refine clear (thn (he H2.objs.size s H fp _ s7 _ H7 _ I7 q7) fun xv s8 ⟨y,H8,I8,r8,hD8,hz8,m',hm,w8⟩=>?_)
     refine clear (thn (bH _ s8 _ H8 (.ref D) [y] (.ref D) [xv] (fun _ H9=>H9=upd H8 D (.lst (ys ++ [y]))) I8 rfl (.cons r8 .nil) ⟨D,ys,y,rfl,rfl,hD8,hz8,rfl⟩) fun _ s9 ⟨_,H9,I9,_,e9⟩=>?_)
     subst e9
     exact again I9 hm w8
  ·rw [aJ (by rw [eD]; exact Nat.ne_of_lt (hfs b hb))]
   exact (hf b hb).1
 exact codeAny_compStart_list loop (T.self _ 0 _ _ _ st1 loop)
def Jy (wi:TI) (caps:List (Str × Nat)) (tt:TT) (te:TE):TE:=fun σ H Q=>wi σ H fun J H1=>rK J (gh caps σ) tt te (fun D H'=>Q (.ref D) H') H1
theorem rn {x:Str} {px pos:Pos} {caps:List (Str × Nat)} {scope:Scope} {cl:List (Str × Addr)} {elt iter:Expr} {ifs:List Expr} {wi:TI} {tt:TT} {te:TE} (hc:X.calm=true) (K0:fj X x caps scope cl) (hi:PI X (.Name x px) iter wi)
  (ht : ∀ C s1 H1 fp1,PTs (bM X (x :: caps.map (·.1)) scope cl C s1 H1 fp1) ifs tt) (he : ∀ C s1 H1 fp1,PE (bM X (x :: caps.map (·.1)) scope cl C s1 H1 fp1) elt te) (hs : ∀ x,foldedSetIterable iter X.env x=pure x:=by intro _; rfl) :
  PE X (.ListComp elt [⟨.Name x px,iter,ifs,0⟩] scope pos) (Jy wi caps tt te):=by
 intro pins s σ H Q I h
 rw [eval_ListComp]
 refine wpAny_comprehension_free (use:=none) rfl hs K0.clos K0.kind K0.names (thn (hi pins s σ H _ I h) fun v s1 h1=>thn h1 fun itv s2 h2=>?_)
 obtain ⟨it,fp,tn,J,H2,e,I2,T,st2,f2,rd⟩:=h2
 subst e
 refine Ce (RR:=fun acc C=>compPost (model X.prog X.w) X.A X.xe none (EP X pins σ Q) acc C) I2 hc K0 T st2 f2 ht he rd ?_
 intro D C s' H' m I' hn fC q
 exact ⟨m,hn,fun h'' hs''=>⟨.ref D,H',I'.turned (h':=h'') (t':=s'.toks) (fun b o hb e=>hs''.extBut b o hb e) fC.1 fC.2.1 fC.2.2.2.1 fC.2.2.2.2.1 fC.2.2.2.2.2,rfl,q⟩⟩
end
theorem oh {scope:Scope} {env:Env} {y:Str} {k:NameKind} (h:(relabel scope env).names.lookup y=some k) : ∃ k0,(y,k0)∈scope.names∧(k=k0∨(k0=.free∧k=.cell)):=by
 have h:=PySem.mem_of_lookup h
 obtain ⟨⟨n,k0⟩,hm,e⟩:=List.mem_map.mp (show (y,k)∈scope.names.map _ from h)
 by_cases c:(k0 == NameKind.free && env.scope.kind == .function && env.kindOf n == some .cell)=true
 ·have e':(n,NameKind.cell)=(y,k):=by rw [← e]; exact (if_pos c).symm
  have c1:k0=.free:=by
   simp only [Bool.and_eq_true] at c
   exact eq_of_beq c.1.1
  cases e'
  exact ⟨_,hm,.inr ⟨c1,rfl⟩⟩
 ·have e':(n,k0)=(y,k):=by rw [← e]; exact (if_neg c).symm
  cases e'
  exact ⟨_,hm,.inl rfl⟩
section
variable {X:Cx} {x:Str} {scope:Scope}
theorem fj.one {y:Str} {j:Nat} {c:Addr} (hN:X.N[j]?=some y) (hX:X.env.scope.names.lookup y=some .cell∨X.env.scope.names.lookup y=some .free) (ec:X.env.cells.lookup y=some c) (clos:closureFor scope X.env=pure [(y,c)])
  (hr:(relabel scope X.env).names.lookup y=some .cell∨(relabel scope X.env).names.lookup y=some .free)
  (hfree : ∀ z∈scope.names,z.2=.free→z.1=y:=by decide) (nocell : ∀ y∈scope.names,y.2 ≠ .cell:=by decide) (kind:scope.kind=.function:=by rfl) (names : ∀ y∈scope.names,y.2=.local→scope.names.lookup y.1=some .local:=by decide)
  (hx:scope.names.lookup x=some .local:=by rfl) (nd:[x,y].Nodup:=by decide):fj X x [(y,j)] scope [(y,c)]:=by
 have look:([(y,c)]:List (Str × Addr)).lookup y=some c:=by simp
 refine ⟨kind,nocell,names,hx,clos,fun z d e=>?_,fun z hz=>?_,nd,fun z i h=>?_⟩
 ·have:=PySem.mem_of_lookup e
  cases List.mem_singleton.mp this
  exact ec
 ·have hz':z=y:=by
   rcases hz with hz | hz
   all_goals
    obtain ⟨k0,hm,e⟩:=oh hz
    rcases e with e | ⟨e,_⟩
    ·subst e
     first | exact absurd rfl (nocell _ hm) | exact hfree _ hm rfl
    ·subst e
     exact hfree _ hm rfl
  subst hz'
  exact ⟨c,look⟩
 ·cases List.mem_singleton.mp h
  exact ⟨hN,hX,hr⟩
end
end L2
set_option Elab.async false
set_option linter.all false
set_option maxRecDepth 100000
set_option maxHeartbeats 4000000
namespace L2
open PySem PySem.Spec PyProof.Rows
section
variable {prog:Program} {w:World} {A:Around} {R:Result→Shared→Prop} {I S:Addr} {fp wr:List Addr} {n:Nat} {P:Nat→Value→Prop} {St:Nat→Heap→Prop} {kw:List (Str × Value)}
theorem DK (W:Walks prog w A.in1 I fp wr n P St) (bt:Nat→Nat→Bool) (cmp:CmpOf prog w A.in1 .Lt P bt) (hSf:S ∉ fp) :
  ∀ (k j:Nat) (s:Shared) (x:Value) (c:Nat),j + 1 + k=n→St (j + 1) s.heap→P (argBest bt j) x→s.heap.get? S=some { cls:=.type "list", data:=.seq #[x,x] c } →
   (∀ v g t,P (argBest bt (n - 1)) v→(∀ b o,b ∉ wr→b ≠ S→s.heap.get? b=some o→g.get? b=some o)→R (.ok (.ret v)) { s with heap:=g,toks:=t }) →
   codeAny (model prog w) A (.builtin "min.loop" ⟨[.ref I,.none,.ref S],kw⟩) R s:=by
 have hSw:S ∉ wr:=fun z=>hSf (W.sub _ z)
 have nm:(toString "min" ++ toString ".loop" : String) = "min.loop" := by decide
 intro k
 induction k with
 | zero =>
  intro j s x c hj st px hS fin
  have hn:j + 1=n:=hj
  refine codeAny_builtin PySem.F.entry_min_loop ?_
  rw [Around.under_plainId PySem.F.plain_min_loop _]
  show wpAny _ A.in1 (seqItems? (.ref S) >>= _) _ _ s
  refine wpAny_bind (wpAny_seqItems hS rfl ?_)
  show wpAny _ A.in1 (tryCatch (pyNext (.ref I)) _ >>= _) _ _ s
  refine wpAny_bind (wpAny_tryCatch (W.done s _ _ (hn ▸ st) fun g t kk=>?_))
  have hS1:=kk S _ hSw hS
  show wpAny _ A.in1 (updateSeq S (fun _ => #[]) >>= _) _ _ _
  refine wpAny_bind (wpAny_updateSeq hS1 rfl (wpAny_bind (wpAny_letGo (wpAny_pure ?_))))
  exact fin x _ t (by rw [← hn]; exact px) fun b o b1 b2 q=>(Heap.get?_update_other _ _ (Ne.symm b2)).trans (kk b o b1 q)
 | succ k ih =>
  intro j s x c hj st px hS fin
  have lt:j + 1 < n:=by omega
  refine codeAny_builtin PySem.F.entry_min_loop ?_
  rw [Around.under_plainId PySem.F.plain_min_loop _]
  show wpAny _ A.in1 (seqItems? (.ref S) >>= _) _ _ s
  refine wpAny_bind (wpAny_seqItems hS rfl ?_)
  show wpAny _ A.in1 (tryCatch (pyNext (.ref I)) _ >>= _) _ _ s
  refine wpAny_bind (wpAny_tryCatch (W.item (j + 1) s _ _ lt st fun v g t pv st1 kk=>?_))
  have hS1:=kk S _ hSw hS
  show wpAny _ A.in1 (tryCatch (holding [v,v] (richCompare .Lt v x >>= _)) _ >>= _) _ _ _
  refine wpAny_bind (wpAny_tryCatch (wpAny_holding (wpAny_bind (cmp (j + 1) (argBest bt j) v x _ _ _ pv px ?_))))
  refine wpAny_bind (wpAny_holding (wpAny_truthy_bool (wpAny_bind (wpAny_letGo (wpAny_pure ?_)))))
  cases hb:bt (j + 1) (argBest bt j) with
  | true =>
   simp only [if_true]
   refine wpAny_bind (wpAny_updateSeq hS1 rfl (wpAny_bind (wpAny_letGo ?_)))
   rw [nm]
   refine wpAny_pure ⟨plainId_quiet PySem.F.plain_min_loop _,ih (j + 1) _ v _ (by omega) (W.frame _ _ _ st1 fun b bf o q=>?_) (by simp only [argBest,hb,if_true]; exact pv) (Heap.get?_update_self _ hS1 rfl) fun y g2 t2 py k2=>?_⟩
   ·exact (Heap.get?_update_other _ _ (fun z:S=b=>hSf (by rw [z]; exact bf))).trans q
   ·exact fin y g2 t2 py fun b o b1 b2 q=>k2 b o b1 b2 ((Heap.get?_update_other _ _ (Ne.symm b2)).trans (kk b o b1 q))
  | false =>
   simp only [Bool.false_eq_true,if_false]
   refine wpAny_bind (wpAny_letGo ?_)
   rw [nm]
   refine wpAny_pure ⟨plainId_quiet PySem.F.plain_min_loop _,ih (j + 1) _ x c (by omega) st1 (by simp only [argBest,hb,Bool.false_eq_true,if_false]; exact px) hS1 fun y g2 t2 py k2=>?_⟩
   exact fin y g2 t2 py fun b o b1 b2 q=>k2 b o b1 b2 (kk b o b1 q)
theorem zZ (W:Walks prog w A.in1 I fp wr n P St) (bt:Nat→Nat→Bool) (cmp:CmpOf prog w A.in1 .Lt P bt) (hSf:S ∉ fp) (hn:0 < n) {s:Shared} {c:Nat} (st:St 0 s.heap)
  (hS:s.heap.get? S=some { cls:=.type "list", data:=.seq #[] c })
  (fin : ∀ v g t,P (argBest bt (n - 1)) v→(∀ b o,b ∉ wr→b ≠ S→s.heap.get? b=some o→g.get? b=some o)→R (.ok (.ret v)) { s with heap:=g,toks:=t }) :
  codeAny (model prog w) A (.builtin "min.loop" ⟨[.ref I,.none,.ref S],kw⟩) R s:=by
 have hSw:S ∉ wr:=fun z=>hSf (W.sub _ z)
 have nm:(toString "min" ++ toString ".loop" : String) = "min.loop" := by decide
 refine codeAny_builtin PySem.F.entry_min_loop ?_
 rw [Around.under_plainId PySem.F.plain_min_loop _]
 show wpAny _ A.in1 (seqItems? (.ref S) >>= _) _ _ s
 refine wpAny_bind (wpAny_seqItems hS rfl ?_)
 show wpAny _ A.in1 (tryCatch (pyNext (.ref I)) _ >>= _) _ _ s
 refine wpAny_bind (wpAny_tryCatch (W.item 0 s _ _ hn st fun v g t pv st1 kk=>?_))
 have hS1:=kk S _ hSw hS
 show wpAny _ A.in1 (updateSeq S (fun _ => #[v,v]) >>= _) _ _ _
 refine wpAny_bind (wpAny_updateSeq hS1 rfl ?_)
 rw [nm]
 refine wpAny_pure ⟨plainId_quiet PySem.F.plain_min_loop _,DK W bt cmp hSf (n - 1) 0 _ v _ (by omega) (W.frame _ _ _ st1 fun b bf o q=>?_) pv (Heap.get?_update_self _ hS1 rfl) fun y g2 t2 py k2=>?_⟩
 ·exact (Heap.get?_update_other _ _ (fun z:S=b=>hSf (by rw [z]; exact bf))).trans q
 ·exact fin y g2 t2 py fun b o b1 b2 q=>k2 b o b1 b2 ((Heap.get?_update_other _ _ (Ne.symm b2)).trans (kk b o b1 q))
end
theorem vK (a v:Value):argsOk "min" ⟨[a],[(Str.ofString "default", v)]⟩:=by unfold argsOk; kernel_rfl
section
variable {prog:Program} {w:World} {A:Around} {E:Value→Shared→Prop} {s:Shared} {l:Addr} {zs:Array (Int × Tok)}
theorem jd {d:Value} {Q:Value→Shared→Prop} (hh:A.handled=none) (hl:s.heap.IsList l (intItems zs)) (hne:0 < zs.size)
  (h : ∀ v g t,(intItems zs)[argBest (fun i j=>decide (numAt zs i < numAt zs j)) (zs.size - 1)]?=some v→(∀ b o,s.heap.get? b=some o→g.get? b=some o)→Q v { s with heap:=g,toks:=t }) :
  wpAny (model prog w) A (call (.builtin "min") [.ref l] [(Str.ofString "default", d)]) Q E s:=by
 have nm:(toString "min" ++ toString ".loop" : String) = "min.loop" := by decide
 refine PyProof.Rows.kmk_tree PySem.F.kind_min PySem.F.plain_min PySem.F.entry_min (vK _ _) ?_
 refine wpAny_bind (wpAny_of_eq (show Builtin.Builtins.bindParams "min" ["key", "default"] 0 ⟨[],[(Str.ofString "default", d)]⟩=pure [none,some d] from rfl) ?_)
 refine wpAny_bind (wpAny_pure (wpAny_bind (iter_intList hl fun s2 e st hfp hlI=>?_)))
 subst e
 refine wpAny_bind (wpAny_newObj_type ?_)
 rw [nm]
 have hz:(intItems zs).size=zs.size:=by simp [intItems]
 refine wpAny_pure ⟨plainId_quiet PySem.F.plain_min_loop _,zZ (Walks.list (A:=A.in1) hh _ l hlI (intItems zs)) _ (CmpOf.ints_lt (numAt zs) (fun _ _=>intItems_at)) (fun z=>Nat.lt_irrefl _ (hfp _ z)) (by rw [hz]; exact hne)
  ⟨⟨_,Heap.get?_push_of_some _ (Heap.get?_push_size _ rfl),rfl,rfl⟩,(hl.push _).push _⟩ (Heap.get?_push_size _ rfl) fun v g t hv k=>?_⟩
 refine h v g t (by rw [hz] at hv; exact hv) fun b o q=>k b o ?_ ?_ (Heap.get?_push_of_some _ (Heap.get?_push_of_some _ q))
 ·exact fun z=>absurd (Heap.lt_size q) (by rw [List.mem_singleton.mp z]; exact Nat.lt_irrefl _)
 ·refine Nat.ne_of_lt (Nat.lt_of_lt_of_le (Heap.lt_size q) ?_)
  rw [Heap.size_push]
  exact Nat.le_succ _
end
def rE (M:Int) (ns:List Int):Prop:=M∈ns ∧ ∀ a∈ns,M≤a
theorem rN {ns:List Int} {its:List Value} {zs:Array (Int × Tok)} (hi:IntsAre its ns) (e:its.toArray=intItems zs) (hne:0 < ns.length):0 < zs.size∧rE (numAt zs (argBest (fun i j=>decide (numAt zs i < numAt zs j)) (zs.size - 1))) ns:=by
 have hns:ns=zs.toList.map (·.1):=by rw [← hi.numsOf,← nums_intItems,← e]
 have hsz:0 < zs.size:=by
  have h3:=hne
  rw [hns,List.length_map,Array.length_toList] at h3
  exact h3
 obtain ⟨h1,h2⟩:=argBest_lt (numAt zs) (zs.size - 1)
 refine ⟨hsz,?_,fun a ha=>?_⟩
 ·rw [hns,numAt_eq]
  exact getD_mem (by rw [List.length_map,Array.length_toList]; omega)
 ·rw [hns] at ha
  obtain ⟨j,hj,rfl⟩:=mem_getD ha
  rw [List.length_map,Array.length_toList] at hj
  rw [← numAt_eq]
  exact h2 j (by omega)
section
variable {X:Cx}
theorem uU (hc:X.calm=true):jj X (.builtin "min") (fun xs H Q => ∃ (p:Addr) (ns:List Int),xs=[.ref p]∧SqL X.K H p (ns.map V.int)∧0 < ns.length ∧ ∀ M,rE M ns→Q (.int M) H):=by
 intro pins s σ H xs us Q I r h
 obtain ⟨p,ns,rfl,hq,hne,q⟩:=h
 obtain ⟨u,rfl,rx⟩:=vals1 r
 cases rx
 obtain ⟨its,r',pl,hz⟩:=I.list hq
 have hi:=intsAre_of r'
 obtain ⟨zs,e⟩:=hi.allInts.items
 obtain ⟨hsz,hm⟩:=rN hi e hne
 refine min_intList (xs:=zs) (I.ok.hd hc) (by rw [← e]; exact pl.isList) hsz fun v g t hv k=>?_
 obtain ⟨t',rfl⟩:=intItems_at hv
 exact ⟨.int _,H,I.kept (t':=t) k,⟨t',rfl⟩,q _ hm⟩
def Ju (K:PySem.W.Frag) (ta:TA) (td:TE):TE:=fun σ H Q=>ta σ H fun vs H1=>td σ H1 fun _ H2 => ∃ (p:Addr) (ns:List Int),vs=[.ref p]∧SqL K H2 p (ns.map V.int)∧0 < ns.length ∧ ∀ M,rE M ns→Q (.int M) H2
theorem G7 {a d:Expr} {ta:TA} {td:TE} {p pos kpos:Pos} (hc:X.calm=true) (hg:Gl X "min") (hm:X.mg "min" = none) (ha:PA X [a] ta) (hd:PE X d td)
  (hv:bootBuiltins "min" = some (.builtin "min"))
  (he:backTo pos (starEach [a] X.env)=(false,eval a X.env) :: backTo pos (starEach [] X.env):=by rfl) (hpl:(backTo pos (starEach [a] X.env)).any (·.1)=false:=by rfl)
  (hks:(backToKw pos (keywordEach [⟨some (Str.ofString "default"),d,kpos⟩] X.env)).filterMap (·.1)=[Str.ofString "default"]:=by rfl)
  (hall:(backToKw pos (keywordEach [⟨some (Str.ofString "default"),d,kpos⟩] X.env)).all (·.1.isSome)=true:=by rfl)
  (hkw:(backToKw pos (keywordEach [⟨some (Str.ofString "default"),d,kpos⟩] X.env)).any (·.1.isNone)=false:=by rfl) :
  PE X (.Call (.Name "min" p) [a] [⟨some (Str.ofString "default"),d,kpos⟩] pos) (Ju X.K ta td):=by
 intro pins s σ H Q I h
 refine wpAny_Call_Name_kw (eO I hg hm hv ?_)
 refine PyProof.Rows.callWith_kw (thn (ha pos pins s σ H _ I h) fun us s1 ⟨vs,H1,I1,r1,q1⟩=>?_) he hpl hall hkw
 show wpAny _ _ (evalAll ((do let v ← eval d X.env; standAt pos; pure v) :: [])) _ _ s1
 refine wpAny_evalAll_cons (wpAny_bind (thn (hd pins s1 σ H1 _ I1 q1) fun dv s2 ⟨x,H2,I2,_,q2⟩=>wpAny_bind (wpAny_standAt (wpAny_pure (wpAny_evalAll_nil ?_)))))
 obtain ⟨b,ns,rfl,hq,hne,q⟩:=q2
 obtain ⟨u,rfl,rx⟩:=vals1 r1
 cases rx
 rw [hks]
 obtain ⟨its,r',pl,hz⟩:=I2.list hq
 have hi:=intsAre_of r'
 obtain ⟨qs,e⟩:=hi.allInts.items
 obtain ⟨hsz,hmn⟩:=rN hi e hne
 refine jd (zs:=qs) (I.ok.hd hc) (by rw [← e]; exact pl.isList) hsz fun v g t hv k=>?_
 obtain ⟨t',rfl⟩:=intItems_at hv
 exact ⟨.int _,H2,I2.kept (t':=t) k,⟨t',rfl⟩,q _ hmn⟩
end
end L2
set_option Elab.async false
set_option linter.all false
set_option maxRecDepth 100000
set_option maxHeartbeats 4000000
namespace L2
open PySem PySem.Spec PyProof.Rows
def Its (lo st:Int) (n:Nat):It:=⟨fun i _=>i < n,fun i H x H'=>H'=H∧x=.int (lo + i * st),fun i _=>n≤i⟩
theorem u5 {P:Program} {w:World} {K:PySem.W.Frag} {tg:Expr} (it:Addr) (lo st:Int) (n:Nat):Turn P w K tg (Its lo st n) [it] it (fun i h=>IsRangeIter h it (lo + (i:Nat) * st) ((n:Int) - (i:Nat)) st) where
 mem:=by simp
 obj:=fun i h q b hb=>by
  have e:b=it:=by simpa using hb
  subst e
  exact ⟨_,q,fun v z=>by
   have z':Data.fields _=Data.cell v:=z
   cases z'⟩
 keep:=fun i h h' q k=>k it (by simp) _ q
 item:=by
  intro X hP hw hK hc i pins s σ H E I hf q hg
  subst hP hw hK
  obtain ⟨f0,f1,f2,f3,f4,f5⟩:=hf it (by simp)
  have W:=Walks.range (prog:=X.prog) (w:=X.w) (I.ok.hd hc) it lo st n
  refine W.item i s _ _ hg q fun v h' tk hv q' kk=>?_
  obtain ⟨t,rfl⟩:=hv
  have I1:Inv X pins σ H { s with heap:=h',toks:=tk }:=I.turned (fun b o hb e=>kk b o (by simpa using hb) e) f0 f1 f3 f4 f5
  exact ⟨_,rfl,yN (s:={ s with heap:=h',toks:=tk }) (n := "range_iterator") q' rfl rfl (by decide) ⟨.int (lo + i * st),H,I1,⟨t,rfl⟩,⟨rfl,rfl⟩,q',fun b hb=>(hf b hb).1⟩⟩
 done:=by
  intro X hP hw hK hc i pins s σ H E I hf q hg
  subst hP hw hK
  obtain ⟨f0,f1,f2,f3,f4,f5⟩:=hf it (by simp)
  exact wpAny_pyNext_range_end (I.ok.hd hc) q (by have:n≤i:=hg; omega) fun h' eb=>⟨rfl,I.turned (t':=s.toks) (fun b o hb e=>eb b o hb e) f0 f1 f3 f4 f5⟩
 self:=fun _ _ _ _ _ q h=>wpAny_pyIter_rangeiter q h
section
variable {X:Cx} {tg:Expr}
def JG (ta:TA):TI:=fun σ H R=>ta σ H fun vs H1 => ∃ b:Nat,vs=[.int 0,.int (b:Int),.int 32]∧b < 536870912∧R (Its 0 32 ((b + 31) / 32)) H1
theorem BR (b:Nat):Builtin.Range.rangeSize 0 b 32=(((b + 31) / 32:Nat):Int):=by
 unfold Builtin.Range.rangeSize
 rw [if_pos (by decide)]
 split <;> omega
theorem mJ {p q:Bool} (hp:p=true) (hq:q=true):(p && q)=true:=by rw [hp,hq]; rfl
theorem Gf {b:Nat} (h:b < 536870912):Builtin.Range.small 0 b 32=true:=by
 unfold Builtin.Range.small Builtin.Range.rangeFitsLong
 rw [BR]
 generalize hn:(((b + 31) / 32:Nat):Int)=n
 have h1:n≤16777216:=by omega
 have h0:0≤n:=by omega
 have e:(2:Int) ^ 63=9223372036854775808:=by decide
 rw [e,if_pos (by decide)]
 refine mJ (mJ (mJ (mJ (by decide) (mJ (decide_eq_true ?_) (decide_eq_true ?_))) (by decide)) (mJ (decide_eq_true ?_) (decide_eq_true ?_))) ?_
 ·omega
 ·omega
 ·omega
 ·omega
 ·rw [Bool.or_eq_true]
  exact .inr (mJ (decide_eq_true (by omega)) (decide_eq_true (by omega)))
theorem Cr {a b c:Expr} {ta:TA} {p pos:Pos} (hg:Gl X "range") (hm:X.mg "range" = none) (ha:PA X [a,b,c] ta) (hs:starEach [a,b,c] X.env=[(false,eval a X.env),(false,eval b X.env),(false,eval c X.env)]:=by rfl)
  (hs2:starEach [b,c] X.env=[(false,eval b X.env),(false,eval c X.env)]:=by rfl):PI X tg (.Call (.Name "range" p) [a,b,c] [] pos) (JG ta):=by
 intro pins s σ H R I h
 refine Call_ (eO I hg hm boot_range (PyProof.Rows.callWith_type1 (thn (ha pos pins s σ H _ I h) fun us s1 ⟨vs,H1,I1,r1,q1⟩=>?_) (by rw [hs,hs2]) (by rw [hs2]; rfl)))
 obtain ⟨y,e,l1,q⟩:=q1
 subst e
 cases r1 with
 | cons r rr =>
  cases rr with
  | cons r' rr =>
   cases rr with
   | cons r'' rr =>
    cases rr
    obtain ⟨t,rfl⟩:=r
    obtain ⟨t',rfl⟩:=r'
    obtain ⟨t'',rfl⟩:=r''
    refine call_range_3 (by decide) ?_ (.inl (PyProof.noPylong_small (by omega)))
    refine wpAny_pyIter_range (IsRange.new ..) (Gf l1) ?_
    have I2:Inv X pins σ H1 { s1 with heap:=s1.heap.push { cls:=.type "range", data:=.fields #[.int 0 t,.int y t',.int 32 t''] },toks:=s1.toks }:=I1.kept fun b o e=>Heap.get?_push_of_some _ e
    refine ⟨(s1.heap.push { cls:=.type "range", data:=.fields #[.int 0 t,.int y t',.int 32 t''] }).objs.size,[(s1.heap.push { cls:=.type "range", data:=.fields #[.int 0 t,.int y t',.int 32 t''] }).objs.size],_,_,H1,rfl,
     I2.kept (t':=s1.toks) fun b o e=>Heap.get?_push_of_some _ e,u5 _ 0 32 ((y + 31) / 32),?_,fun b hb=>?_,q⟩
    ·have e1:(0:Int) + ((0:Nat):Int) * 32=0:=by decide
     have e2:(((y + 31) / 32:Nat):Int) - ((0:Nat):Int)=Builtin.Range.rangeSize 0 y 32:=by rw [BR]; simp
     show IsRangeIter _ _ ((0:Int) + ((0:Nat):Int) * 32) ((((y + 31) / 32:Nat):Int) - ((0:Nat):Int)) 32
     rw [e1,e2]
     exact Heap.get?_push_size _ rfl
    ·have e:b=(s1.heap.push { cls:=.type "range", data:=.fields #[.int 0 t,.int y t',.int 32 t''] }).objs.size:=by simpa using hb
     subst e
     exact I2.fpOk (Nat.le_refl _) (I2.hok.fresh (Nat.le_refl _))
end
theorem Gg {lo st:Int} {n:Nat} {g:TG} {tb:TS} {D:Ends} {σ:St} {H:Hp} (Pv:Nat→St→Hp→Prop) (h0:Pv 0 σ H)
  (hs : ∀ (i:Nat) σ H,i < n→Pv i σ H→g (.int (lo + i * st)) σ H fun σ2 H2=>tb { D with nx:=Pv (i + 1),ct:=Pv (i + 1),bk:=D.nx } σ2 H2) (hd : ∀ σ H,Pv n σ H→D.nx σ H) :
  ∃ W:Nat→Nat→St→Hp→Prop,(∃ m,W 0 m σ H) ∧ ∀ i m σ H,W i m σ H →
   ((Its lo st n).stop i H∧D.nx σ H)∨((Its lo st n).go i H ∧ ∃ N:St→Hp→Prop,(∀ σ' H',N σ' H' → ∃ m',m' < m∧W (i + 1) m' σ' H') ∧ ∀ x H',(Its lo st n).yld i H x H'→g x σ H' fun σ2 H2=>tb { D with nx:=N,ct:=N,bk:=D.nx } σ2 H2):=by
 refine ⟨fun i m σ H=>m=n - i∧i≤n∧Pv i σ H,⟨n,by simp,Nat.zero_le _,h0⟩,?_⟩
 rintro i m σ H ⟨rfl,hi,p⟩
 by_cases hlt:i < n
 ·refine .inr ⟨hlt,Pv (i + 1),fun σ' H' p'=>⟨n - (i + 1),by omega,rfl,hlt,p'⟩,fun x H' y=>?_⟩
  obtain ⟨rfl,rfl⟩:=y
  exact hs i σ _ hlt p
 ·have e:i=n:=by omega
  subst e
  exact .inl ⟨Nat.le_refl _,hd σ H p⟩
def Itv (K:PySem.W.Frag) (a:Addr) (xs:List V):It :=
 ⟨fun i H=>SqL K H a xs∧i < xs.length,fun i H x H'=>H'=H∧xs[xs.length - 1 - i]?=some x,fun i _=>xs.length≤i⟩
theorem Fw {P:Program} {w:World} {K:PySem.W.Frag} {tg:Expr} (a it:Addr) (xs:List V):Turn P w K tg (Itv K a xs) [it] it (fun i h=>i≤xs.length∧h.IsRevIter it a ((xs.length:Int) - 1 - (i:Nat))) where
 mem:=by simp
 obj:=fun i h st b hb=>by
  have e:b=it:=by simpa using hb
  subst e
  obtain ⟨_,o,e,c,d⟩:=st
  exact ⟨o,e,fun v z=>by rw [d] at z; cases z⟩
 keep:=fun i h h' st k=>⟨st.1,st.2.at fun o e=>k it (by simp) o e⟩
 item:=by
  intro X hP hw hK hc i pins s σ H E I hf st hg
  subst hP hw hK
  obtain ⟨hq,hi⟩:=hg
  obtain ⟨its,rv,p,hz⟩:=I.list hq
  obtain ⟨x,hx⟩ : ∃ x,xs[xs.length - 1 - i]?=some x:=⟨_,List.getElem?_eq_getElem (by omega)⟩
  obtain ⟨u,hu,ru⟩:=rv.get hx
  obtain ⟨f0,f1,f2,f3,f4,f5⟩:=hf it (by simp)
  obtain ⟨hle,st⟩:=st
  have e:(xs.length:Int) - 1 - (i:Nat)=((xs.length - 1 - i:Nat):Int):=by omega
  rw [e] at st
  refine wpAny_pyNext_rev_item st p.isList (x:=u) (by simpa using hu) fun h' st' sb=>?_
  have I1:Inv X pins σ H { s with heap:=h' }:=I.turned (t':=s.toks) (fun b o hb e=>(sb.2 b hb).trans e) f0 f1 f3 f4 f5
  have e2:((xs.length - 1 - i:Nat):Int) - 1=(xs.length:Int) - 1 - ((i + 1:Nat):Int):=by omega
  rw [e2] at st'
  obtain ⟨o,e,c,d⟩:=id st'
  exact ⟨u,rfl,yN (s:={ s with heap:=h' }) e c d (by decide) ⟨x,H,I1,ru,⟨rfl,hx⟩,⟨by omega,st'⟩,fun b hb=>(hf b hb).1⟩⟩
 done:=by
  intro X hP hw hK hc i pins s σ H E I hf st hg
  subst hP hw hK
  obtain ⟨f0,f1,f2,f3,f4,f5⟩:=hf it (by simp)
  obtain ⟨hle,st⟩:=st
  have e:(xs.length:Int) - 1 - (i:Nat) = -1:=by have:xs.length≤i:=hg; omega
  rw [e] at st
  exact wpAny_pyNext_rev_end (I.ok.hd hc) st fun h' eb=>⟨rfl,I.turned (t':=s.toks) (fun b o hb e=>eb b o hb e) f0 f1 f3 f4 f5⟩
 self:=fun _ _ _ _ _ st h=>wpAny_pyIter_revIter st.2 h
section
variable {X:Cx} {tg:Expr}
def Kd (K:PySem.W.Frag) (ta:TA):TI:=fun σ H R=>ta σ H fun vs H1 => ∃ a xs,vs=[.ref a]∧SqL K H1 a xs∧R (Itv K a xs) H1
theorem Ba {a:Expr} {ta:TA} {p pos:Pos} (hg:Gl X "reversed") (hm:X.mg "reversed" = none) (ha:PA X [a] ta) (hv:bootBuiltins "reversed" = some (.type "reversed")) (hs:starEach [a] X.env=[(false,eval a X.env)]:=by rfl) :
  PI X tg (.Call (.Name "reversed" p) [a] [] pos) (Kd X.K ta):=by
 intro pins s σ H R I h
 refine Call_ (eO I hg hm hv (PyProof.Rows.callWith_type1 (thn (ha pos pins s σ H _ I h) fun us s1 ⟨vs,H1,I1,r1,q1⟩=>?_) hs rfl))
 obtain ⟨b,xs,e,hq,q⟩:=q1
 subst e
 obtain ⟨u,rfl,rx⟩:=vals1 r1
 cases rx
 obtain ⟨its,rv,pl,hz⟩:=I1.list hq
 refine call_reversed_list pl.isList ?_
 have hl:=rv.length
 have st:({ s1 with heap:=s1.heap.push (revObj b ((its.toArray.size:Int) - 1)) }:Shared).heap.IsRevIter s1.heap.objs.size b ((xs.length:Int) - 1 - ((0:Nat):Int)):=by
  refine ⟨_,Heap.get?_push_size _ rfl,rfl,?_⟩
  show Data.fields #[.ref b,rawInt ((its.toArray.size:Int) - 1)]=_
  have e:(its.toArray.size:Int) - 1=(xs.length:Int) - 1 - ((0:Nat):Int):=by simp; omega
  rw [e]
 refine wpAny_pyIter_revIter st ?_
 have I2:Inv X pins σ H1 { s1 with heap:=s1.heap.push (revObj b ((its.toArray.size:Int) - 1)) }:=I1.kept (t':=s1.toks) fun c o e=>Heap.get?_push_of_some _ e
 refine ⟨s1.heap.objs.size,[s1.heap.objs.size],_,Itv X.K b xs,H1,rfl,I2,Fw b _ xs,⟨Nat.zero_le _,st⟩,fun c hc=>?_,q⟩
 have e:c=s1.heap.objs.size:=by simpa using hc
 subst e
 exact I1.fpOk (Nat.le_refl _) (I1.hok.fresh (Nat.le_refl _))
end
theorem wL {K:PySem.W.Frag} {a:Addr} {xs:List V} {g:TG} {tb:TS} {D:Ends} {σ:St} {H:Hp} (Pv:Nat→St→Hp→Prop) (h0:Pv 0 σ H) (hl : ∀ i σ H,i≤xs.length→Pv i σ H→SqL K H a xs)
  (hs : ∀ i x σ H,i < xs.length→xs[xs.length - 1 - i]?=some x→Pv i σ H→g x σ H fun σ2 H2=>tb { D with nx:=Pv (i + 1),ct:=Pv (i + 1),bk:=D.nx } σ2 H2) (hd : ∀ σ H,Pv xs.length σ H→D.nx σ H) :
  ∃ W:Nat→Nat→St→Hp→Prop,(∃ m,W 0 m σ H) ∧ ∀ i m σ H,W i m σ H →
   ((Itv K a xs).stop i H∧D.nx σ H)∨((Itv K a xs).go i H ∧ ∃ N:St→Hp→Prop,(∀ σ' H',N σ' H' → ∃ m',m' < m∧W (i + 1) m' σ' H') ∧ ∀ x H',(Itv K a xs).yld i H x H'→g x σ H' fun σ2 H2=>tb { D with nx:=N,ct:=N,bk:=D.nx } σ2 H2):=by
 refine ⟨fun i m σ H=>m=xs.length - i∧i≤xs.length∧Pv i σ H,⟨xs.length,by simp,Nat.zero_le _,h0⟩,?_⟩
 rintro i m σ H ⟨rfl,hi,p⟩
 by_cases hlt:i < xs.length
 ·refine .inr ⟨⟨hl i σ H hi p,hlt⟩,Pv (i + 1),fun σ' H' p'=>⟨xs.length - (i + 1),by omega,rfl,hlt,p'⟩,fun x H' y=>?_⟩
  obtain ⟨rfl,hx⟩:=y
  exact hs i x σ _ hlt hx p
 ·have e:i=xs.length:=by omega
  subst e
  exact .inl ⟨Nat.le_refl _,hd σ H p⟩
end L2
set_option Elab.async false
set_option linter.all false
set_option maxRecDepth 100000
set_option maxHeartbeats 4000000
namespace L2
open PySem PySem.Spec PyProof.Rows
section
variable {prog:Program} {w:World} {A:Around} {E:Value→Shared→Prop} {s:Shared}
theorem yE {T newId initId:String} {Bn Bi:Builtin} {args:List Value} {kw:List (Str × Value)} {S:_root_.PySem.Spec} {Q Q1:Value→Shared→Prop} (ft:TypeCalled T newId initId)
  (hct:checkTypeCall T ⟨args,kw⟩=pure ()) (hcn:checkBuiltinCall newId ⟨.type T :: args,kw⟩=pure ()) (eN:entryFor table newId=some Bn) (eI:entryFor table initId=some Bi)
  (g:Meets (Bn ⟨.type T :: args,kw⟩) S) (h:S A.in1 (wants Q1 E) s)
  (go : ∀ obj s1,Q1 obj s1→s1.TypeIs obj T∧argsOk initId ⟨obj :: args,kw⟩ ∧ ∃ Si,Meets (Bi ⟨obj :: args,kw⟩) Si∧Si A.in1 (wants (fun r s2=>r=.none∧Q obj s2) E) s1) :
  wpAny (model prog w) A (call (.type T) args kw) Q E s:=by
 obtain ⟨c,tl,hmro⟩:=ft.mro
 have hmade:=ft.made
 have hsub:=ft.sub
 refine wpAny_call (codeAny_of_tree ?_)
 show wpAny _ _ (callAny (.type T) _) _ _ _
 refine wpAny_pure ⟨Code.quiet_builtin _ (by decide +kernel),codeAny_builtin PySem.F.entry_type_call ?_⟩
 rw [Around.under_plain (weight_type_call_type T args kw) (units_type_call_type T args kw)]
 have n1:=ft.notType
 have n2:=ft.canCreate
 repeat (any_goals (first | assumption | wp_step))
 refine codeAny_mono (codeAny_call_builtin ft.plain eN (wpAny_of_eq hcn (g prog w A.in1 _ s h))) fun r s1 hr=>?_
 cases r with
 | error e=>exact hr
 | ok fl =>
  cases fl with
  | ret obj =>
   obtain ⟨hT,hok,Si,gi,hsi⟩:=go _ _ hr
   have hli:=ft.init.lookup
   have hbi:=ft.init.bind obj
   repeat (any_goals (first | assumption | wp_step))
   refine codeAny_mono (codeAny_call_builtin ft.init.plain eI (ft.init.check _ _ _ _ _ _ _ _ hT hok (gi prog w A.in1 _ s1 hsi))) fun r2 s2 hr2=>?_
   cases r2 with
   | error e=>exact hr2
   | ok fl2 =>
    cases fl2 with
    | ret r =>
     obtain ⟨rfl,hq⟩:=hr2
     repeat (any_goals (first | assumption | wp_step))
    | _=>exact hr2.elim
  | _=>exact hr.elim
theorem xK {T newId:String} {self:Value} {rest:List Value} {kw:List (Str × Value)} (hl:typeLookup (.type T) "__init__" = pure (some (.builtin "object.__init__")))
  (hm:Bind.madeBy (.type T)=pure (some newId)) (hne:(some newId != some "object.__new__")=true) :
  Meets (Builtin.«object.__init__» ⟨self :: rest,kw⟩) (fun _ R s=>s.TypeIs self T∧R (.ok (.ret .none)) s):=by
 refine Meets.of_wp fun prog w A R s hs=>?_
 obtain ⟨hT,hq⟩:=hs
 cases rest with
 | nil =>
  cases kw with
  | nil=>exact wpAny_pure ⟨_,rfl,hq⟩
  | cons p kw =>
   repeat (any_goals (first | assumption | wp_step))
   exact ⟨_,rfl,hq⟩
 | cons a rest =>
  repeat (any_goals (first | assumption | wp_step))
  exact ⟨_,rfl,hq⟩
end
theorem zN (a v:Value):checkTypeCall "enumerate" ⟨[a],[(Str.ofString "start", v)]⟩=pure ():=by kernel_rfl
theorem Dl (a v:Value):checkBuiltinCall "enumerate.__new__" ⟨[.type "enumerate", a],[(Str.ofString "start", v)]⟩=pure ():=by kernel_rfl
theorem Ar (o a v:Value):argsOk "object.__init__" ⟨[o,a],[(Str.ofString "start", v)]⟩:=by
 unfold argsOk
 rw [signature?_of (id := "object.__init__") (n:=['_','_','t','i','n','i','_','_']) (o:=['t','c','e','j','b','o']) (by kernel_rfl) PySem.F.owner_object]
 kernel_rfl
open AutoSeq1 (wpAny_loadPart') in
set_option maxHeartbeats 4000000 in
theorem xY (l:Addr) (items:Array Value) (n:Nat) (dct:Option Addr) (sl:Array (Option Value)) (t:Tok) :
  Meets (Builtin.«enumerate.__new__» ⟨[.type "enumerate", .ref l],[(Str.ofString "start", .int 1 t)]⟩) (fun _ R s=>s.heap.get? l=some { cls:=.type "list", dict:=dct,data:=.seq items n,slots:=sl } ∧
   R (.ok (.ret (.ref (s.heap.push { cls:=.type "list_iterator", data:=.fields #[.ref l,.int 0 0] }).objs.size)))
    { s with heap:=(s.heap.push { cls:=.type "list_iterator", data:=.fields #[.ref l,.int 0 0] }).push { cls:=.type "enumerate", data:=.fields #[.none,.bool false,.ref s.heap.objs.size,rawInt 1,.none,.none] } }) :=
 .of_wp fun prog w A R s h=>by
  obtain ⟨hp,g,d,tk,os⟩:=s
  obtain ⟨hl,h⟩:=h
  have hsub:=sub_enumerate
  have hL:Heap.IsList (Shared.heap ⟨hp,g,d,tk,os⟩) l items:=⟨_,hl,rfl,n,rfl⟩
  wp_walk using wpAny_loadPart' hl
  refine wpAny_stack_any fun st=>wpAny_pure ?_
  split
  ·rename_i c _ _ _ _ _
   cases (c == Value.type "enumerate")
   ·wp_walk using wpAny_loadPart' hl,wpAny_pyIter_list hL
    exact ⟨_,rfl,h⟩
   ·wp_walk using wpAny_loadPart' hl,wpAny_pyIter_list hL
    exact ⟨_,rfl,h⟩
  ·wp_walk using wpAny_loadPart' hl,wpAny_pyIter_list hL
   exact ⟨_,rfl,h⟩
section
variable {prog:Program} {w:World} {A:Around} {E:Value→Shared→Prop} {s:Shared}
theorem Bh {l:Addr} {items:Array Value} {t:Tok} {Q:Value→Shared→Prop} (hL:s.heap.IsList l items)
  (h : ∀ g,IsEnum g (s.heap.objs.size + 1) s.heap.objs.size 1 .none→g.IsListIter s.heap.objs.size l 0→(∀ b o,s.heap.get? b=some o→g.get? b=some o)→Q (.ref (s.heap.objs.size + 1)) { s with heap:=g }) :
  wpAny (model prog w) A (call (.type "enumerate") [.ref l] [(Str.ofString "start", .int 1 t)]) Q E s:=by
 obtain ⟨⟨c,dct,dt,sl⟩,hl,hc,n,hd⟩:=hL
 replace hc:c=.type "list" := hc
 replace hd:dt=.seq items n:=hd
 subst hc hd
 have hz:(s.heap.push { cls:=.type "list_iterator", data:=.fields #[.ref l,.int 0 0] }).objs.size=s.heap.objs.size + 1:=Heap.size_push ..
 refine yE (Q1:=fun obj s1=>s1.TypeIs obj "enumerate" ∧ Q obj s1) PySem.F.called_enumerate (zN _ _) (Dl _ _) PySem.F.entry_enumerate_new PySem.F.entry_object_init (xY l items n dct sl t) ⟨hl,?_⟩ fun obj s1 hq =>
  ⟨hq.1,Ar _ _ _,_,xK PySem.F.called_enumerate.init.lookup PySem.F.called_enumerate.made (by decide),hq.1,rfl,hq.2⟩
 show _∧_
 rw [hz]
 have he:IsEnum ((s.heap.push { cls:=.type "list_iterator", data:=.fields #[.ref l,.int 0 0] }).push { cls:=.type "enumerate", data:=.fields #[.none,.bool false,.ref s.heap.objs.size,rawInt 1,.none,.none] }) (s.heap.objs.size + 1) s.heap.objs.size 1 .none:=by
  have:=Heap.get?_push_size (s.heap.push { cls:=.type "list_iterator", data:=.fields #[.ref l,.int 0 0] }) (o:={ cls:=.type "enumerate", data:=.fields #[.none,.bool false,.ref s.heap.objs.size,rawInt 1,.none,.none] }) rfl
  rw [hz] at this
  exact this
 exact ⟨⟨_,he,rfl⟩,h _ he ⟨_,Heap.get?_push_of_some _ (Heap.get?_push_size _ rfl),rfl,rfl⟩ fun b o q=>Heap.get?_push_of_some _ (Heap.get?_push_of_some _ q)⟩
end
theorem Gq {prog:Program} {w:World} {A:Around} (hh:A.handled=none) (it l:Addr) (hne:l ≠ it) (items:Array Value) :
  Draws prog w A it [it,l] (items.size + 1) (fun i v => ∃ j,i=j + 1∧items[j]?=some v) (fun i h => ∃ j,i=j + 1∧h.IsListIter it l j∧h.IsList l items) where
 live:=fun _ _ st=>by
  obtain ⟨j,_,st⟩:=st
  exact (Draws.list (prog:=prog) (w:=w) hh it l hne items).live j _ st
 frame:=fun _ _ _ st k=>by
  obtain ⟨j,e,st⟩:=st
  exact ⟨j,e,(Draws.list (prog:=prog) (w:=w) hh it l hne items).frame j _ _ st k⟩
 item:=fun i s Q E hi st hQ=>by
  obtain ⟨j,rfl,st⟩:=st
  exact (Draws.list (prog:=prog) (w:=w) hh it l hne items).item j s Q E (by omega) st fun x g t p q r=>hQ x g t ⟨j,rfl,p⟩ ⟨j + 1,rfl,q⟩ r
 done:=fun s Q E st hE=>by
  obtain ⟨j,e,st⟩:=st
  have:j=items.size:=by omega
  subst this
  exact (Draws.list (prog:=prog) (w:=w) hh it l hne items).done s Q E st hE
def Itu (K:PySem.W.Frag) (a:Addr):It :=
  ⟨fun i H => ∃ xs x,SqL K H a xs∧xs[i]?=some x,fun i H x H' => ∃ p y,H p=none∧x=.ref p∧H'=upd H p (.tup [.int ((i + 1:Nat):Int),y]) ∧ ∀ xs,SqL K H a xs→xs[i]?=some y,
   fun i H => ∃ xs,SqL K H a xs∧xs.length≤i⟩
theorem Fl {prog:Program} {w:World} {A:Around} {E:Value→Shared→Prop} {s:Shared} {e it l:Addr} {i:Nat} {k:Int} {items:Array Value} {old:Value} {Q:Option Value→Shared→Prop} (hh:A.handled=none)
  (he:IsEnum s.heap e it k old) (hit:s.heap.IsListIter it l i) (hl:s.heap.IsList l items) (hx:items[i]?=none) (hQ : ∀ g,Heap.ExtBut it s.heap g→Q none { s with heap:=g }):wpAny (model prog w) A (pyNext (.ref e)) Q E s:=by
 have hT:s.TypeIs (.ref e) "enumerate" := ⟨_,he,rfl⟩
 unfold pyNext
 refine wpAny_bind (wpAny_attempt (wpAny_callSpecial?_slot (name:=Str.ofString "__next__") hT PySem.F.slot_enumerate_next
  (wpAny_call_entry PySem.F.slot_enumerate_next hT PySem.F.entry_enumerate_next ?_ (PySem.F.args_enumerate_next_1 _))))
 show wpAny _ _ (field (.ref e) 2 >>= _) _ _ _
 refine wpAny_bind (wpAny_field he rfl (x:=.ref it) rfl ?_)
 refine wpAny_bind (wpAny_nextOf_list_end hh hit hl hx fun g x hg hx'=>?_)
 obtain ⟨o,ho,hc⟩:=hx'
 refine wpAny_bind (wpAny_isInstance (T := "StopIteration") (b:=true) ⟨o,ho,hc⟩ isSubtype_stop ?_)
 exact wpAny_pure (hQ _ hg)
theorem pJ {h:Heap} {a b:Addr} {o u:Obj} (ho:h.get? a=some o) (hu:h.get? b=some u) (hc:o.cls ≠ u.cls):a ≠ b:=by
 rintro rfl
 rw [ho] at hu
 cases hu
 exact hc rfl
theorem zU {P:Program} {w:World} {K:PySem.W.Frag} {elts:List Expr} {x1:Nat} {tpos:Pos} (a e it:Addr) (hne:e ≠ it) :
  Turn P w K (.Tuple elts x1 tpos) (Itu K a) [e,it] e (fun i h=>(∃ old,IsEnum h e it ((i + 1:Nat):Int) old)∧h.IsListIter it a i) where
 mem:=by simp
 obj:=fun i h st b hb=>by
  obtain ⟨⟨old,he⟩,o,ho,hc,hd⟩:=st
  rcases List.mem_cons.mp hb with rfl | hb
  ·exact ⟨_,he,fun v z=>by cases z⟩
  ·rw [List.mem_singleton.mp hb]
   exact ⟨o,ho,fun v z=>by rw [hd] at z; cases z⟩
 keep:=fun i h h' st k=>by
  obtain ⟨⟨old,he⟩,st⟩:=st
  exact ⟨⟨old,k e (by simp) _ he⟩,st.at fun o q=>k it (by simp) o q⟩
 item:=by
  intro X hP hw hK hc i pins s σ H E I hf st hg
  subst hP hw hK
  obtain ⟨xs,x,hq,hx⟩:=hg
  obtain ⟨its,rv,p,hz⟩:=I.list hq
  obtain ⟨u,hu,ru⟩:=rv.get hx
  obtain ⟨⟨old,he⟩,st⟩:=st
  obtain ⟨oi,hoi,hci,_⟩:=id st
  obtain ⟨ol,hol,hcl,_⟩:=id p.isList
  have nai:a ≠ it:=pJ hol hoi (by rw [hcl,hci]; decide)
  have nae:e ≠ a:=pJ he hol (by rw [hcl]; show Value.type "enumerate" ≠ Value.type "list"; decide)
  have hlt:i < its.length:=(List.getElem?_eq_some_iff.mp hu).1
  refine wpAny_pyNext_enum_itemD (Gq (A:=X.A.in1) (I.ok.hd hc) it a nai its.toArray) he ⟨i,rfl,st,p.isList⟩ (by simpa using hlt) hne (by simp [hne,nae]) fun u' h1 tk hP heo hit1 ht1 hz1 hk1=>?_
  obtain ⟨j,hj,hu'⟩:=hP
  have ej:j=i:=by omega
  subst ej
  have eu:u'=u:=by
   have:its[j]?=some u':=by simpa using hu'
   rw [hu] at this
   exact (Option.some.inj this).symm
  subst eu
  obtain ⟨j',hj',hit1,_⟩:=hit1
  have ej':j'=j + 1:=by omega
  subst ej'
  refine ⟨_,rfl,wpAny_letOwnedTupleGo_enum heo fun h2 he2 hs2=>?_⟩
  have ee:e < s.heap.objs.size:=Heap.lt_size he
  have g2:h2.get? s.heap.objs.size=some { cls:=.type "tuple", data:=.seq #[.int ((j + 1:Nat):Int) tk,u'] }:=(hs2.2 _ (Nat.ne_of_gt ee)).trans ht1
  have kk : ∀ b o,b ≠ e→b ≠ it→s.heap.get? b=some o→h2.get? b=some o:=fun b o h3 h4 q=>(hs2.2 b h3).trans (hk1 b o h3 h4 q)
  have new:cD X.prog X.w (upd H s.heap.objs.size (.tup [.int ((j + 1:Nat):Int),x])) h2 s.heap.objs.size (.tup [.int ((j + 1:Nat):Int),x]) :=
   ⟨(by show 2≤sizeLine; decide),[.int ((j + 1:Nat):Int) tk,u'],.cons ⟨_,rfl⟩ (.cons ru .nil),_,g2,rfl,_,rfl⟩
  have I2:=I.turn2 (h':=h2) (t':=tk + 1) (hf e (by simp)) (hf it (by simp)) kk (Nat.le_refl _) new
  have hn:H s.heap.objs.size=none:=I.hok.fresh (Nat.le_refl _)
  refine ⟨.ref s.heap.objs.size,_,I2,rfl,⟨_,x,hn,rfl,rfl,fun ys hy=>by rw [I.list_inj hy hq]; exact hx⟩,⟨⟨u',by simpa using he2⟩,hit1.extBut hs2.extBut (Ne.symm hne)⟩,fun b hb=>?_⟩
  have hbn:=(hf b hb).1
  have hbs:b ≠ s.heap.objs.size:=by
   rcases List.mem_cons.mp hb with rfl | hb
   ·exact Nat.ne_of_lt ee
   ·rw [List.mem_singleton.mp hb]
    exact Nat.ne_of_lt (Heap.lt_size hoi)
  rw [aJ hbs]
  exact hbn
 done:=by
  intro X hP hw hK hc i pins s σ H E I hf st hg
  subst hP hw hK
  obtain ⟨xs,hq,hx⟩:=hg
  obtain ⟨its,rv,p,hz⟩:=I.list hq
  obtain ⟨f0,f1,f2,f3,f4,f5⟩:=hf it (by simp)
  obtain ⟨⟨old,he⟩,st⟩:=st
  have hl:=rv.length
  obtain ⟨oi,hoi,hci,_⟩:=id st
  obtain ⟨ol,hol,hcl,_⟩:=id p.isList
  have nai:a ≠ it:=pJ hol hoi (by rw [hcl,hci]; decide)
  refine Fl (I.ok.hd hc) he st p.isList (by simp; omega) fun h' eb=>⟨rfl,I.turned (t':=s.toks) (fun b o hb e=>eb b o hb e) f0 f1 f3 f4 f5⟩
 self:=fun _ _ _ _ _ st h=>by
  obtain ⟨⟨old,he⟩,_⟩:=st
  exact wpAny_pyIter_enum he h
section
variable {M:Model} {A:Around} {E:Value→Shared→Prop} {s:Shared} {env:Env}
theorem rF {pos:Pos} {T:String} {e:Expr} {rest:List Expr} {kws:List Keyword} {Q:Value→Shared→Prop}
  (h:wpAny M A (spliced (backTo pos (starEach (e :: rest) env))) (fun vs s1=>wpAny M A (evalAll ((backToKw pos (keywordEach kws env)).map (·.2)))
   (fun ws s2=>wpAny M A (call (.type T) vs (((backToKw pos (keywordEach kws env)).filterMap (·.1)).zip ws)) Q E s2) E s1) E s)
  (he:backTo pos (starEach (e :: rest) env)=(false,eval e env) :: backTo pos (starEach rest env):=by rfl) (hp:(backTo pos (starEach (e :: rest) env)).any (·.1)=false:=by rfl)
  (hall:(backToKw pos (keywordEach kws env)).all (·.1.isSome)=true:=by rfl) (hkw:(backToKw pos (keywordEach kws env)).any (·.1.isNone)=false:=by rfl) :
  wpAny M A (callWith pos (.type T) [] (backTo pos (starEach (e :: rest) env)) (backToKw pos (keywordEach kws env))) Q E s:=by
 unfold callWith
 have h2:wpAny M A (evalArgs (.type T) true (backTo pos (starEach (e :: rest) env)) (backToKw pos (keywordEach kws env))) (fun a s1=>wpAny M A (call (.type T) ([] ++ a.pos) a.kw) Q E s1) E s:=by
  rw [he] at h ⊢
  exact PyProof.Rows.evalArgs_kwB hall h
 refine wpAny_bind (wpAny_holding (thn h2 fun a s1 h1=>wpAny_bind (wpAny_standAt ?_)))
 simp only [hp,hkw,Bool.or_false]
 refine wpAny_bind (wpAny_pure ?_)
 exact wpAny_bind (thn h1 fun r s2 hr=>wpAny_bind (wpAny_holding (wpAny_point (wpAny_pure hr))))
end
section
variable {X:Cx}
def Iu (K:PySem.W.Frag) (ta:TA) (td:TE):TI:=fun σ H R=>ta σ H fun vs H1=>td σ H1 fun d H2 => ∃ a xs,d=.int 1∧vs=[.ref a]∧SqL K H2 a xs∧R (Itu K a) H2
theorem yV {a d:Expr} {ta:TA} {td:TE} {p pos kpos:Pos} {elts:List Expr} {x1:Nat} {tpos:Pos} (hg:Gl X "enumerate") (hm:X.mg "enumerate" = none) (ha:PA X [a] ta) (hd:PE X d td)
  (he:backTo pos (starEach [a] X.env)=(false,eval a X.env) :: backTo pos (starEach [] X.env):=by rfl) (hpl:(backTo pos (starEach [a] X.env)).any (·.1)=false:=by rfl)
  (hks:(backToKw pos (keywordEach [⟨some (Str.ofString "start"),d,kpos⟩] X.env)).filterMap (·.1)=[Str.ofString "start"]:=by rfl)
  (hall:(backToKw pos (keywordEach [⟨some (Str.ofString "start"),d,kpos⟩] X.env)).all (·.1.isSome)=true:=by rfl)
  (hkw:(backToKw pos (keywordEach [⟨some (Str.ofString "start"),d,kpos⟩] X.env)).any (·.1.isNone)=false:=by rfl) :
  PI X (.Tuple elts x1 tpos) (.Call (.Name "enumerate" p) [a] [⟨some (Str.ofString "start"),d,kpos⟩] pos) (Iu X.K ta td):=by
 intro pins s σ H R I h
 refine wpAny_Call_Name_kw (eO I hg hm boot_enumerate ?_)
 refine rF (thn (ha pos pins s σ H _ I h) fun us s1 ⟨vs,H1,I1,r1,q1⟩=>?_) he hpl hall hkw
 show wpAny _ _ (evalAll ((do let v ← eval d X.env; standAt pos; pure v) :: [])) _ _ s1
 refine wpAny_evalAll_cons (wpAny_bind (thn (hd pins s1 σ H1 _ I1 q1) fun dv s2 ⟨x,H2,I2,rd,q2⟩=>wpAny_bind (wpAny_standAt (wpAny_pure (wpAny_evalAll_nil ?_)))))
 obtain ⟨b,xs,rfl,rfl,hq,q⟩:=q2
 obtain ⟨u,rfl,rx⟩:=vals1 r1
 cases rx
 obtain ⟨td',rfl⟩:=rd
 rw [hks]
 obtain ⟨its,rv,pl,hz⟩:=I2.list hq
 refine Bh pl.isList fun g he2 hit hk=>?_
 refine wpAny_pyIter_enum he2 ?_
 have I3:Inv X pins σ H2 { s2 with heap:=g }:=I2.kept (t':=s2.toks) hk
 have ne:s2.heap.objs.size + 1 ≠ s2.heap.objs.size:=by omega
 refine ⟨s2.heap.objs.size + 1,[s2.heap.objs.size + 1,s2.heap.objs.size],_,Itu X.K b,H2,rfl,I3,zU b _ _ ne,⟨⟨_,he2⟩,hit⟩,fun c hc=>?_,q⟩
 have hle:s2.heap.objs.size≤c:=by
  rcases List.mem_cons.mp hc with rfl | hc
  ·omega
  ·rw [List.mem_singleton.mp hc]
   omega
 exact I2.fpOk hle (I2.hok.fresh hle)
end
theorem vf {K:PySem.W.Frag} {a:Addr} {xs:List V} {g:TG} {tb:TS} {D:Ends} {σ:St} {H:Hp} (Pv:Nat→St→Hp→Prop) (h0:Pv 0 σ H) (hl : ∀ i σ H,i≤xs.length→Pv i σ H→SqL K H a xs)
  (hs : ∀ i x σ H p,xs[i]?=some x→Pv i σ H→H p=none→g (.ref p) σ (upd H p (.tup [.int ((i + 1:Nat):Int),x])) fun σ2 H2=>tb { D with nx:=Pv (i + 1),ct:=Pv (i + 1),bk:=D.nx } σ2 H2) (hd : ∀ σ H,Pv xs.length σ H→D.nx σ H) :
  ∃ W:Nat→Nat→St→Hp→Prop,(∃ m,W 0 m σ H) ∧ ∀ i m σ H,W i m σ H →
   ((Itu K a).stop i H∧D.nx σ H)∨((Itu K a).go i H ∧ ∃ N:St→Hp→Prop,(∀ σ' H',N σ' H' → ∃ m',m' < m∧W (i + 1) m' σ' H') ∧ ∀ x H',(Itu K a).yld i H x H'→g x σ H' fun σ2 H2=>tb { D with nx:=N,ct:=N,bk:=D.nx } σ2 H2):=by
 refine ⟨fun i m σ H=>m=xs.length - i∧i≤xs.length∧Pv i σ H,⟨xs.length,by simp,Nat.zero_le _,h0⟩,?_⟩
 rintro i m σ H ⟨rfl,hi,p⟩
 have q:=hl i σ H hi p
 by_cases hlt:i < xs.length
 ·refine .inr ⟨⟨xs,xs[i],q,by simp [hlt]⟩,Pv (i + 1),fun σ' H' p'=>⟨xs.length - (i + 1),by omega,rfl,hlt,p'⟩,fun x H' y=>?_⟩
  obtain ⟨c,y,hn,e1,e2,hy⟩:=y
  subst e1 e2
  exact hs i y σ H c (hy xs q) p hn
 ·have e:i=xs.length:=by omega
  subst e
  exact .inl ⟨⟨xs,q,Nat.le_refl _⟩,hd σ H p⟩
end L2
set_option Elab.async false
set_option linter.all false
set_option maxRecDepth 100000
set_option maxHeartbeats 4000000
namespace L2
open PySem PySem.Spec PyProof.Rows
mutual
inductive qJ (K:PySem.W.Frag) (H:Hp):V→PyData→Prop where
 | non:qJ K H .non .none
 | bl (b:Bool):qJ K H (.bl b) (.bool b)
 | int (i:Int):qJ K H (.int i) (.int i)
 | str (x:Str):qJ K H (.str x) (.str x)
 | lst {a:Addr} {xs:List V} {ds:List PyData} (h:SqL K H a xs) (r:lQ K H xs ds):qJ K H (.ref a) (.list ds)
 | tup {a:Addr} {xs:List V} {ds:List PyData} (h:SqT K H a xs) (r:lQ K H xs ds):qJ K H (.ref a) (.tuple ds)
inductive lQ (K:PySem.W.Frag) (H:Hp):List V→List PyData→Prop where
 | nil:lQ K H [] []
 | cons {x:V} {xs:List V} {d:PyData} {ds:List PyData} (h:qJ K H x d) (r:lQ K H xs ds):lQ K H (x :: xs) (d :: ds)
end
section
variable {X:Cx} {pins:List (Addr × Obj)} {σ:St} {H:Hp} {s:Shared}
mutual
theorem qJ.reads (I:Inv X pins σ H s) {x:V} {d:PyData} {u:Value}:qJ X.K H x d→RelV x u → ∃ as,Reads s.heap u d as
 | .non,r=>⟨_,by cases (show u=Value.none from r); exact .none⟩
 | .bl b,r=>⟨_,by cases (show u=Value.bool b from r); exact .bool b⟩
 | .int i,r=>by
  obtain ⟨t,rfl⟩:=r
  exact ⟨_,.int i t⟩
 | .str y,r=>by
  obtain ⟨t,rfl⟩:=r
  exact ⟨_,.str y t⟩
 | .lst (a:=a) h q,r=>by
  cases (show u=Value.ref a from r)
  obtain ⟨its,rv,p,_⟩:=I.list h
  obtain ⟨as,ra⟩:=lQ.reads I q rv
  obtain ⟨o,n,e,c,_,d⟩:=p
  exact ⟨_,.list e c d (by simpa using ra)⟩
 | .tup (a:=a) h q,r=>by
  cases (show u=Value.ref a from r)
  obtain ⟨its,rv,p,_⟩:=I.tuple h
  obtain ⟨as,ra⟩:=lQ.reads I q rv
  obtain ⟨o,e,c,n,d⟩:=p
  exact ⟨_,.tuple e c d (by simpa using ra)⟩
theorem lQ.reads (I:Inv X pins σ H s) {xs:List V} {ds:List PyData} {us:List Value}:lQ X.K H xs ds→Vals xs us → ∃ as,ReadsAll s.heap us ds as
 | .nil,r=>by
  cases r
  exact ⟨_,.nil⟩
 | .cons h q,r=>by
  cases r with
  | cons r1 r2 =>
   obtain ⟨as,ra⟩:=qJ.reads I h r1
   obtain ⟨bs,rb⟩:=lQ.reads I q r2
   exact ⟨_,.cons ra rb⟩
end
end
def Kc (K:PySem.W.Frag):R2:=fun x y H Q => ∃ (a b:Addr) (ns ms:List Int),x=.ref a∧y=.ref b∧SqL K H a (ns.map V.int)∧SqL K H b (ms.map V.int)∧Q (.bl (!decide (ns=ms))) H
def Ka (K:PySem.W.Frag):R2:=fun x y H Q => ∃ d1 d2:PyData,qJ K H x d1∧qJ K H y d2∧SeqAt.shaped d1=true∧SeqAt.shaped d2=true∧Q (.bl (!PyData.eqv d1 d2)) H
section
variable {X:Cx}
theorem Ew (hu:X.A.units + 64 < cLine):OpR X (compareOp .NotEq) (fun x y H Q=>Kc X.K x y H Q∨Ka X.K x y H Q):=by
 intro pins s σ H x y u v Q I rx ry h
 rcases h with ⟨a,b,ns,ms,rfl,rfl,ha,hb,q⟩ | ⟨d1,d2,h1,h2,e1,e2,q⟩
 ·cases (show u=Value.ref a from rx)
  cases (show v=Value.ref b from ry)
  obtain ⟨us,r1,p1,_⟩:=I.list ha
  obtain ⟨ws,r2,p2,_⟩:=I.list hb
  exact PySem.W.ke_ne_ints p1.isList p2.isList (intsAre_of r1) (intsAre_of r2) hu ⟨.bl _,H,I,rfl,q⟩
 ·obtain ⟨as,ra⟩:=h1.reads I rx
  obtain ⟨bs,rb⟩:=h2.reads I ry
  exact ne_dataH ra rb e1 e2 hu ⟨.bl _,H,I,rfl,q⟩
end
end L2
set_option Elab.async false
set_option linter.all false
set_option maxRecDepth 100000
set_option maxHeartbeats 4000000
namespace Tw
open PySem L2
theorem CV {lo:Int} {n:Nat} {cap:L2.St} {tt:TT} {te:TE} {Qf:Addr→Hp→Prop} {H:Hp} (f:Nat→Int) (hl:n < sizeLine)
  (htt : ∀ (z:Int) (H':Hp) (Q:Bool→Hp→Prop),Q true H'→tt (some (.int z) :: cap) H' Q) (hte : ∀ (i:Nat) (H':Hp) (Q:VK),i < n→aR H H'→Q (.int (f i)) H'→te (some (.int (lo + i)) :: cap) H' Q)
  (q : ∀ D,H D=none→Qf D (upd H D (.lst (((List.range n).map f).map V.int)))):rK (Itr lo n) cap tt te Qf H:=by
 intro D hD
 refine ⟨fun i m ys H1=>m=n - i∧i≤n∧ys=((List.range i).map f).map V.int∧H1=upd H D (.lst ys),⟨_,rfl,Nat.zero_le _,rfl,rfl⟩,?_⟩
 rintro i m ys H1 ⟨rfl,hi,rfl,rfl⟩
 by_cases hlt:i < n
 ·refine .inr ⟨hlt,fun v H2 y=>?_⟩
  obtain ⟨rfl,rfl⟩:=y
  refine htt _ _ _ ?_
  rw [if_pos rfl]
  refine hte i _ _ hlt (aA hD _) ⟨az,?_,n - (i + 1),by omega,rfl,hlt,?_,?_⟩
  ·rw [List.length_map,List.length_map,List.length_range]
   omega
  ·rw [List.range_succ,List.map_append,List.map_append]
   rfl
  ·rw [w6]
 ·have e:i=n:=by omega
  subst e
  exact .inl ⟨Nat.le_refl _,q D hD⟩
theorem Ir {H:Hp} {a:Addr} {o:HO} (h:H a=some o):upd H a o=H:=funext fun b=>by
 by_cases e:b=a
 ·rw [e,az,h]
 ·rw [aJ e]
end Tw
namespace Tw
open PySem L2
theorem Er {c A:Prop} [Decidable c] {D:Ends} {σ:St} {H:Hp} (R:St→Hp→Prop) (hR:R σ H) (h : ∀ σ' H',R σ' H'→D.nx σ' H') (hA:c→(∀ σ' H',R σ' H'→D.nx σ' H')→A):if c then A else FJ D σ H:=by
 by_cases q:c
 ·rw [if_pos q]
  exact hA q h
 ·rw [if_neg q]
  exact h _ _ hR
theorem vO {c A:Prop} [Decidable c] {D:Ends} {σ:St} {H:Hp} (R:St→Hp→Prop) (hR : ¬ c→R σ H) (h : ∀ σ' H',R σ' H'→D.nx σ' H') (hA:c→(∀ σ' H',R σ' H'→D.nx σ' H')→A):if c then A else FJ D σ H:=by
 by_cases q:c
 ·rw [if_pos q]
  exact hA q h
 ·rw [if_neg q]
  exact h _ _ (hR q)
theorem Bt {t:TA} {i:Nat} {k:Int} {xs:List V} {σ:St} {H:Hp} {Q:VK} (ht : ∀ Q':List V→Hp→Prop,Q' xs H→t σ H Q') (e:σ[i]?=some (some (.int k))) (hk:k≤100000) (hx:xs.length≤2) (h0 : -100000≤k)
  (q : ∀ p H',H p=none→aR H H'→H' p=some (.lst (List.replicate k.toNat xs).flatten)→Q (.ref p) H'):tOp JF (JQ t) (Im i) σ H Q:=by
 refine ht _ ⟨by rw [sizeLine_eq]; omega,fun p hp=>⟨_,e,p,k,xs,rfl,rfl,az,by omega,by omega,?_,fun r hr=>q r _ ((aA hp _).free hr) ((aA hp _).trans (aA hr _)) az⟩⟩
 rw [sizeLine_eq]
 have:k.toNat≤100000:=by omega
 have:=Nat.mul_le_mul hx this
 omega
end Tw
namespace L2
open PySem PySem.Spec PyProof.Rows PySem.W
section
variable {X:Cx}
end
end L2
namespace Tw
open PySem L2
end Tw
namespace Tw
open PySem L2
end Tw
set_option Elab.async false
set_option linter.all false
set_option maxRecDepth 100000
set_option maxHeartbeats 4000000
namespace L2
open PySem PySem.Spec PyProof.Rows
theorem cD.ex {P:Program} {w:World} {H:Hp} {h:Heap} {a:Addr} {o:HO} (x:cD P w H h a o) : ∃ ob,h.get? a=some ob:=by
 induction o with
 | lst xs=>obtain ⟨z,its,n,r,e⟩:=x; exact ⟨_,e⟩
 | tup xs=>obtain ⟨z,its,r,ob,e,c⟩:=x; exact ⟨_,e⟩
 | dK kvs=>obtain ⟨z,y,vs,r,ob,es,ep,e,c⟩:=x; exact ⟨_,e⟩
 | dT kvs=>obtain ⟨z,y,xs,r,ob,es,ep,e,c⟩:=x; exact ⟨_,e⟩
 | set S n=>obtain ⟨ob,es,ep,t,e,c⟩:=x; exact ⟨_,e⟩
 | ins C dx fs=>obtain ⟨d,z,ne,e,_⟩:=x; exact ⟨_,e⟩
 | own y=>exact x
 | xd fs=>obtain ⟨mA,⟨od,es,ep,e,c⟩,r⟩:=x; exact ⟨_,e⟩
 | rng lo hi=>obtain ⟨t,u,v,e⟩:=x; exact ⟨_,e⟩
 | frz ob u ih=>exact ⟨_,x.1⟩
 | tbl ps=>exact ⟨_,x⟩
 | met f y=>exact ⟨_,x⟩
 | ext φ=>exact x.2.1
structure Cov (B:Heap) (fs:List Addr) (H H':Hp) (h:Heap):Prop where
 old : ∀ b o,h.get? b=some o→b ∉ fs → ∃ o',B.get? b=some o'∧(H b=none→o'=o)
 trk : ∀ b u,H' b=some u → ∃ o,B.get? b=some o
def CX1 (P:Program) (w:World):CXT:=fun outer H s E e s' => ∃ (ea C t:Addr) (B:Heap) (H':Hp),e=.ref ea∧s'.os=s.os∧AllBare s'.gens∧Un (frs outer) [] H H' s.heap s'.heap∧HOk P w H' s'.heap ∧
  Heap.FlyingW B outer ea (.ref C) (.ref t) s'.heap∧Cov B (frs outer) H H' s.heap∧E (.ref C) none H'
section
variable {P:Program} {w:World} {K:PySem.W.Frag} {mg:Str→Option Value} {base:Heap} {N:List Str} {qual:Str} {scope:Scope} {f:Addr} {cd:Value} {A:Around} {outer:List Env} {s0:Shared} {H0:Hp} {E:XK}
abbrev X1 (P:Program) (w:World) (K:PySem.W.Frag) (mg:Str→Option Value) (base:Heap) (N:List Str) (qual:Str) (scope:Scope) (f:Addr) (cd:Value) (A:Around) (outer:List Env) (s0:Shared) (H0:Hp) (E:XK):Cx :=
 gj (CX1 P w) P w K mg base N qual scope f cd A outer s0 H0 E
theorem young {b:Addr} {o:Obj} (q:s0.heap.get? b=some o) (hb:b ∉ frs outer):b ∉ frs (envOfC qual scope s0.heap.objs.size f cd :: outer):=fun z=>by
 have z':b∈s0.heap.objs.size :: frs outer:=z
 rcases List.mem_cons.mp z' with e | e
 ·exact absurd (Heap.lt_size q) (by rw [e]; exact Nat.lt_irrefl _)
 ·exact hb e
theorem raised {pins:List (Addr × Obj)} {σ:St} {H:Hp} {s:Shared} {h1:Heap} {ea C:Addr} {vs:List Value} (I:Inv (X1 P w K mg base N qual scope f cd A outer s0 H0 E) pins σ H s) (m:Heap.MadeExcOf s.heap h1 ea (.ref C) vs) (q:E (.ref C) none H) :
  (X1 P w K mg base N qual scope f cd A outer s0 H0 E).xe (.ref ea) { s with heap:=h1 }:=by
 have stk:s.heap.FunFrames base (envOfC qual scope s0.heap.objs.size f cd :: outer):=I.stack
 have hin : ∀ env∈(envOfC qual scope s0.heap.objs.size f cd :: outer),∀ b,env.frame=some b→b∈frs (envOfC qual scope s0.heap.objs.size f cd :: outer):=fun env he b hb=>List.mem_filterMap.mpr ⟨env,he,hb⟩
 have U:Un (frs outer) [] H0 H s0.heap s.heap:=I.base
 have nofr : ∀ b u,H b=some u→b ∉ frs (envOfC qual scope s0.heap.objs.size f cd :: outer):=fun b u e z=>by
  have:=I.stkFree b z
  rw [this] at e
  cases e
 have inB : ∀ b o,s.heap.get? b=some o→b ∉ frs (envOfC qual scope s0.heap.objs.size f cd :: outer)→(PySem.W.hideAll s.heap (frs (envOfC qual scope s0.heap.objs.size f cd :: outer))).get? b=some o:=fun b o e n=>PySem.W.hideAll_get _ e n
 show wpAny _ _ (leaving _ _) _ _ _
 refine wpAny_leaves_madeW (base:=PySem.W.hideAll s.heap (frs (envOfC qual scope s0.heap.objs.size f cd :: outer))) I.ok.frames rfl (fun b o e=>PySem.W.of_hideAll _ e) (PySem.W.funFrames_hide stk hin) m fun h2 t x1 x2 x3 x4=>?_
 have kept:=x1.1
 have fr : ∀ b o,s.heap.get? b=some o→b∈frs outer → ∃ sl,h2.get? b=some { o with slots:=sl }:=fun b o e hb=>by
  obtain ⟨_,o',ho',nf⟩:=stk.mem (b:=b) (List.mem_cons_of_mem _ hb)
  rw [e] at ho'
  cases ho'
  exact x4 b o (m.keeps _ _ e) nf
 refine ⟨ea,C,t,_,H,rfl,I.os,I.bare,⟨fun b o e n hb hx=>?_,fun b o e n hb hx=>?_,U.free,fun b o e hx=>?_,U.tups,U.frzs,U.tbls⟩,fun b u e=>?_,x1,⟨fun b o e hb=>?_,fun b u e=>?_⟩,q⟩
 ·exact kept b o (inB b o (U.keep b o e n hb hx) (young e hb))
 ·obtain ⟨sl,e1⟩:=U.slot b o e n hb hx
  obtain ⟨sl',e2⟩:=fr b _ e1 hb
  exact ⟨sl',e2⟩
 ·obtain ⟨o1,e1⟩:=U.there b o e hx
  by_cases hb:b∈frs outer
  ·obtain ⟨sl,e2⟩:=fr b _ e1 hb
   exact ⟨_,e2⟩
  ·exact ⟨o1,kept b o1 (inB b o1 e1 (young e hb))⟩
 ·refine (I.hok b u e).stay (fun c o hc e1=>kept c o (inB c o e1 ?_)) (fun _ r=>r) fun _ _ r=>r
  rcases hc with rfl | hc
  ·exact nofr _ _ e
  ·exact nofr _ _ hc
 ·obtain ⟨o1,e1⟩:=U.there b o e (by simp)
  refine ⟨o1,inB b o1 e1 (young e hb),fun n=>?_⟩
  have:=U.keep b o e n hb (by simp)
  rw [e1] at this
  exact Option.some.inj this
 ·obtain ⟨o,e1⟩:=(I.hok b u e).ex
  exact ⟨o,inB b o e1 (nofr b u e)⟩
theorem jg:mH (CX1 P w) (X1 P w K mg base N qual scope f cd A outer s0 H0 E) E:=by
 intro pins σ H s e s' I h
 obtain ⟨ea,C,t,B,H',rfl,os,bare,un,hok,fl,cov,q⟩:=h
 have U:Un (frs outer) [] H0 H s0.heap s.heap:=I.base
 show wpAny _ _ (leaving _ _) _ _ _
 refine wpAny_leaves_onW (base:=B) I.ok.frames rfl fl fun h2 x1 x2=>?_
 have kept:=x1.1
 have fr : ∀ b o,s'.heap.get? b=some o→b∈frs outer → ∃ sl,h2.get? b=some { o with slots:=sl }:=fun b o e hb=>by
  obtain ⟨_,o',ho',nf⟩:=fl.2.2.1.mem (b:=b) (List.mem_cons_of_mem _ hb)
  rw [e] at ho'
  cases ho'
  exact x2 b o e nf
 refine ⟨ea,C,t,B,H',rfl,os.trans I.os,bare,⟨fun b o e n hb hx=>?_,fun b o e n hb hx=>?_,fun b o e n hx=>?_,fun b o e hx=>?_,fun b xs e=>un.tups b xs (U.tups b xs e),fun b o u e=>un.frzs b o u (U.frzs b o u e),fun b ps e=>?_⟩,fun b u e=>?_,x1,⟨fun b o e hb=>?_,cov.trk⟩,q⟩
 ·obtain ⟨o',e2,z⟩:=cov.old b o (U.keep b o e n hb hx) (young e hb)
  rw [z (U.free b o e n hx)] at e2
  exact kept b o e2
 ·obtain ⟨sl,e1⟩:=U.slot b o e n hb hx
  obtain ⟨sl',e2⟩:=un.slot b _ e1 (U.free b o e n hx) (List.mem_cons_of_mem _ hb) hx
  obtain ⟨sl2,e3⟩:=fr b _ e2 hb
  exact ⟨sl2,e3⟩
 ·obtain ⟨o1,e1⟩:=U.there b o e hx
  exact un.free b o1 e1 (U.free b o e n hx) hx
 ·obtain ⟨o1,e1⟩:=U.there b o e hx
  by_cases hb:b∈frs outer
  ·obtain ⟨o2,e2⟩:=un.there b o1 e1 hx
   obtain ⟨sl,e3⟩:=fr b _ e2 hb
   exact ⟨_,e3⟩
  ·obtain ⟨o',e2,_⟩:=cov.old b o1 e1 (young e hb)
   exact ⟨o',kept b o' e2⟩
 ·obtain ⟨m1,e1⟩:=U.tbls b ps e
  obtain ⟨m2,e2⟩:=un.tbls b _ e1
  exact ⟨m1 ++ m2,by rw [e2,Array.append_assoc]⟩
 ·refine (hok b u e).stay (fun c o hc e1=>?_) (fun _ r=>r) fun _ _ r=>r
  have ht : ∃ o,B.get? c=some o:=by
   rcases hc with rfl | hc
   ·exact cov.trk _ _ e
   ·exact cov.trk _ _ hc
  obtain ⟨o1,e2⟩:=ht
  have:=fl.1 c o1 e2
  rw [e1] at this
  cases this
  exact kept c o e2
 ·obtain ⟨o1,e1⟩:=U.there b o e (by simp)
  obtain ⟨o',e2,z⟩:=cov.old b o1 e1 (young e hb)
  refine ⟨o',e2,fun n=>?_⟩
  have:=U.keep b o e n hb (by simp)
  rw [e1] at this
  rw [z (U.free b o e n (by simp))]
  exact Option.some.inj this
end
section
variable {P:Program} {w:World} {K:PySem.W.Frag} {mg:Str→Option Value} {base:Heap}
theorem Fun.ok1 {x qual:Str} {st:Stmt} {f:Addr} {fd:FuncData} {N ps:List Str} {k:Nat} {sp:Sp} (F:Fun K x qual st f fd) (S:aC N ps (defScope st)) (len : ∀ vs H Q E,sp vs H Q E→vs.length=ps.length)
  (hbody : ∀ (cdv:Value) (A:Around) (outer:List Env) (s:Shared) (H:Hp) (vs:List V) (Q:VK) (E:XK),dN k (A.deeper (envOfC qual (defScope st) s.heap.objs.size f cdv))→sp vs H Q E →
   ∃ t,PSs (X1 P w K mg base N qual (defScope st) f cdv A outer s H E) (defBody st) t∧t { nx:=fun _ H'=>Q .non H',rt:=Q } (start N vs) H):aX P w K mg base (CX1 P w) (k + 1) f fd ps sp:=by
 obtain ⟨oc,od,kV,doc,pm,an,cdv,ct,osl,rfl,lk,hcd⟩:=F.ex
 exact Hk lk hcd S len fun A outer s H vs Q E hr hsp=>hbody cdv A outer s H vs Q E hr hsp
end
abbrev bmV:List Value:=[.type "ValueError", .type "Exception", .type "BaseException", .type "object"]
structure Exc (K:PySem.W.Frag) (mg:Str→Option Value) (x:Str) (C:Addr):Prop where
 m:mg x=some (.ref C)
 q:PySem.W.excIn K C bmV "ValueError.__new__" = true
theorem Bv {K:PySem.W.Frag} {h:Heap} {C:Addr} (X:K.In h) (q:PySem.W.excIn K C bmV "ValueError.__new__" = true) :
  ∃ bm N nm qn bs hdct sn sub ab col dd k0 k1 k2 k3 k5 mN,h.get? C=some (excClassObj nm qn C N bs bm hdct sn sub ab col dd k0 k1 k2 k3 k5 "ValueError.__new__")∧h.Ns N mN∧mN "__init__" = none∧OwnTail h bmV bm:=by
 unfold PySem.W.excIn at q
 split at q
 ·rename_i dd cd sl ho
  split at q
  ·rename_i C' bm k0 k1 k2 k3 n k5 hm hs
   simp only [Bool.and_eq_true,beq_iff_eq,Bool.not_eq_true'] at q
   obtain ⟨⟨⟨⟨⟨rfl,rfl⟩,hdel⟩,ht⟩,hok⟩,hni⟩:=q
   obtain ⟨nm,bs,mro,ns,qn,hd,sn,sub,ab,col,del⟩:=cd
   dsimp only at hm hdel hok hni
   subst hm hdel
   have hsl:sl = #[k0,k1,k2,k3,some (.builtin "ValueError.__new__"),k5]:=by
    obtain ⟨l⟩:=sl
    simp only at hs
    rw [hs]
   subst hsl
   exact ⟨bm,ns,nm,qn,bs,hd,sn,sub,ab,col,dd,k0,k1,k2,k3,k5,_,X _ _ ho,.of_isNs (PySem.W.isNs_of_in X hok),PySem.W.nsMap_none_of_in X hok hni,PySem.W.tail_of_in X ht⟩
  ·cases q
 ·cases q
section
variable {P:Program} {w:World} {K:PySem.W.Frag} {mg:Str→Option Value} {base:Heap} {N:List Str} {qual:Str} {scope:Scope} {f:Addr} {cd:Value} {A:Around} {outer:List Env} {s0:Shared} {H0:Hp} {E:XK}
def Iv (C:Addr) (E:XK) (ta:TA):TS:=fun _ σ H=>ta σ H fun vs H1=>vs.length≤sizeLine∧E (.ref C) none H1
theorem En {x:Str} {C:Addr} {a:Expr} {ta:TA} {np cpos pos:Pos} (e:Exc K mg x C) (hg:Gl (X1 P w K mg base N qual scope f cd A outer s0 H0 E) x) (ha:PA (X1 P w K mg base N qual scope f cd A outer s0 H0 E) [a] ta)
  (hdb:(x == ("__debug__" : Str))=false:=by decide)
  (he:starEach [a] (X1 P w K mg base N qual scope f cd A outer s0 H0 E).env=[(false,eval a (X1 P w K mg base N qual scope f cd A outer s0 H0 E).env)]:=by rfl) :
  PS (X1 P w K mg base N qual scope f cd A outer s0 H0 E) (.Raise (some (.Call (.Name x np) [a] [] cpos)) none pos) (Iv C E ta):=by
 intro pins s σ H D I h
 obtain ⟨bm,N',nm,qn,bs,hdct,sn,sub,ab,col,dd,k0,k1,k2,k3,k5,mN,hC,hN,hni,T⟩:=Bv I.mod.kin e.q
 refine wpAny_Raise_call_subU (C:=C) (nm:=nm) (q:=qn) (N:=N') (bs:=bs) (bm:=bm) (hdct:=hdct) (sn:=sn) (sub:=sub) (ab:=ab) (col:=col) (dd:=dd) (k0:=k0) (k1:=k1) (k2:=k2) (k3:=k3) (k5:=k5)
  PySem.F.excBase_ValueError PySem.F.excBase_ValueError.hasB PySem.F.excBase_ValueError (mN:=mN) (T.hasType PySem.F.excBase_ValueError.hasBase) (I.ok.hd rfl) (by rw [he]; rfl) hni (qW I hg e.m ⟨rfl,?_⟩ hdb)
 have h2:=ha cpos pins s σ H _ I h
 rw [he] at h2 ⊢
 refine Calls.evalArgs_plain (thn h2 fun us s2 ⟨vs,H2,I2,r2,q1,q2⟩=>⟨rfl,?_,I2.bk _ _ hC,hN.keeps I2.bk,T.keeps I2.bk,fun h' ea m=>raised I2 m q2⟩)
 rw [← r2.length]
 exact q1
end
def Ia (ea C:Addr):HO:=.ext fun h => ∃ o vs,h.get? ea=some o∧o.cls=.ref C∧o.data=.fields vs
structure Gv (K:PySem.W.Frag) (C:Addr):Prop where
 dct:PySem.W.hasDictIn K C=true
 ga:PySem.W.findIn K (.ref C) "__getattribute__" = some (some (.builtin "BaseException.__getattribute__"))
 nga:PySem.W.findIn K (.ref C) "__getattr__" = some none
 cl:PySem.W.findIn K (.ref C) "__class__" = some (some (.builtin "object.__class__"))
 gt:PySem.W.specialIn K (.builtin "object.__class__") "__get__" = some (some (.builtin "getset_descriptor.__get__"))
 tk:PySem.W.takesIn K (.builtin "object.__class__")=some true
 mo:PySem.W.mroIn K C (.type "object")=some true
 mb:PySem.W.mroIn K C (.type "BaseException")=some true
def Cx.suite (X:Cx) (ea:Addr):Cx:={ X with A:=X.A.mark (some (.ref ea)),calm:=false,xe:=fun _ _=>False }
section
variable {X:Cx} {pins:List (Addr × Obj)} {σ:St} {H:Hp} {s:Shared} {ea:Addr}
theorem Cx.Ok.suite (ok:X.Ok):(X.suite ea).Ok :=
 ⟨ok.mod,ok.kind,ok.glob,ok.blt,ok.above,ok.inj,ok.has,ok.cab,fun z=>absurd z Bool.false_ne_true,ok.frames,ok.stk,ok.exf,ok.bs,ok.bsz,ok.noex,ok.exfs,ok.funs,ok.frf⟩
theorem Inv.suite (I:Inv X pins σ H s):Inv (X.suite ea) pins σ H s:=⟨I.ok.suite,I.os,I.bare,I.base,I.loc,I.cell,I.free,I.freeC,I.pin,I.hok,I.len⟩
theorem Inv.unsuite (ok:X.Ok) (I:Inv (X.suite ea) pins σ H s):Inv X pins σ H s:=⟨ok,I.os,I.bare,I.base,I.loc,I.cell,I.free,I.freeC,I.pin,I.hok,I.len⟩
theorem landed {C t:Addr} {B:Heap} {H':Hp} {s':Shared} {h6:Heap} (I:Inv X pins σ H s) (os:s'.os=s.os) (bare:AllBare s'.gens) (un:Un (frs X.stack) [] H H' s.heap s'.heap) (hok:HOk X.prog X.w H' s'.heap)
  (fl:Heap.FlyingW B X.stack ea (.ref C) (.ref t) s'.heap) (cov:Cov B (frs X.stack) H H' s.heap) (fl6:Heap.FlyingW B X.stack ea (.ref C) (.ref t) h6) (up:s'.heap.UpToSlots h6) :
  H' ea=none∧Inv X pins σ (upd H' ea (Ia ea C)) { s' with heap:=h6 }:=by
 have nea:H' ea=none:=by
  cases q:H' ea with
  | none=>rfl
  | some u =>
   obtain ⟨o,e⟩:=cov.trk ea u q
   rw [fl.2.1] at e
   cases e
 obtain ⟨oe,vs,hoe,hoc,hod,_⟩:=fl6.first
 have fresh:s.heap.get? ea=none:=by
  cases q:s.heap.get? ea with
  | none=>rfl
  | some o =>
   by_cases hb:ea∈frs X.stack
   ·obtain ⟨_,o',ho',nf⟩:=fl6.2.2.1.mem hb
    rw [hoe] at ho'
    cases ho'
    exact absurd hod (nf vs)
   ·obtain ⟨o',e,_⟩:=cov.old ea o q hb
    rw [fl.2.1] at e
    cases e
 have fr : ∀ b o,s'.heap.get? b=some o→b∈frs X.stack → ∃ sl,h6.get? b=some { o with slots:=sl }:=fun b o e hb=>by
  obtain ⟨_,o',ho',nf⟩:=fl.2.2.1.mem hb
  rw [e] at ho'
  cases ho'
  exact up b o e nf
 have ne : ∀ b u,H' b=some u→b ≠ ea:=fun b u e=>aN e nea
 refine ⟨nea,I.call' (ch:=[]) os ⟨fun b o e n hb hx=>?_,fun b o e n hb hx=>?_,fun b o e n hx=>?_,fun b o e hx=>?_,fun b xs e=>?_,fun b o u e=>?_,fun b ps e=>?_⟩ (fun b u e=>?_) bare fun b z=>absurd z (by simp)⟩
 ·obtain ⟨o',e2,z⟩:=cov.old b o e hb
  rw [z n] at e2
  exact fl6.1 b o e2
 ·obtain ⟨sl,e1⟩:=un.slot b o e n hb hx
  obtain ⟨sl2,e2⟩:=fr b _ e1 hb
  exact ⟨sl2,e2⟩
 ·have:b ≠ ea:=fun z=>by rw [z,fresh] at e; cases e
  rw [aJ this]
  exact un.free b o e n hx
 ·by_cases hb:b∈frs X.stack
  ·obtain ⟨o1,e1⟩:=un.there b o e hx
   obtain ⟨sl,e2⟩:=fr b _ e1 hb
   exact ⟨_,e2⟩
  ·obtain ⟨o',e2,_⟩:=cov.old b o e hb
   exact ⟨o',fl6.1 b o' e2⟩
 ·have q:=un.tups b xs e
  rw [aJ (ne b _ q)]
  exact q
 ·have q:=un.frzs b o u e
  rw [aJ (ne b _ q)]
  exact q
 ·obtain ⟨more,q⟩:=un.tbls b ps e
  exact ⟨more,by rw [aJ (ne b _ q)]; exact q⟩
 ·by_cases hb:b=ea
  ·subst hb
   rw [az] at e
   cases e
   refine ⟨⟨oe,vs,hoe,hoc,hod⟩,⟨oe,hoe⟩,fun h1 h2 p k=>?_⟩
   obtain ⟨o,ws,e1,e2,e3⟩:=p
   exact ⟨o,ws,k o e1,e2,e3⟩
  ·rw [aJ hb] at e
   refine (hok b u e).stay (fun c o hc e1=>?_) (fun c r=>by rw [aJ (ne c _ r)]; exact r) fun c xs r=>by rw [aJ (ne c _ r)]; exact r
   have ht : ∃ o,B.get? c=some o:=by
    rcases hc with rfl | hc
    ·exact cov.trk _ _ e
    ·exact cov.trk _ _ hc
   obtain ⟨o1,e2⟩:=ht
   have:=fl.1 c o1 e2
   rw [e1] at this
   cases this
   exact fl6.1 c o e2
end
section
variable {K:PySem.W.Frag} {x C:Addr}
def ExcAt (x C:Addr) (h:Heap):Prop := ∃ o vs,h.get? x=some o∧o.cls=.ref C∧o.data=.fields vs
theorem Io {M:Model} {h:Heap} (p:ExcAt x C h):PySem.W.Looks M h (typeOf (.ref x)) (.ref C):=by
 obtain ⟨o,vs,h1,h2,_⟩:=p
 exact h2 ▸ (PySem.W.Looks.ld h1).andThen .now
end
end L2
namespace L2
open PySem PySem.Spec PyProof.Rows PySem.W Builtin Builtin.ObjectAttr Builtin.Getset_descriptor
section
variable {K:PySem.W.Frag} {x C:Addr}
variable {prog:Program} {w:World} {A:Around} {E:Value→Shared→Prop} {s:Shared} {R:Result→Shared→Prop}
end
section
variable {X:Cx}
end
theorem lR {P:Program} {w:World} {X:Cx}:mH (CX1 P w) X (fun _ _ _=>False):=fun _ _ _ _ _ _ _ h=>by
 obtain ⟨_,_,_,_,_,_,_,_,_,_,_,_,z⟩:=h
 exact z.elim
end L2
set_option Elab.async false
set_option linter.all false
set_option maxRecDepth 100000
set_option maxHeartbeats 4000000
namespace L2
open PySem PySem.Spec PyProof.Rows PySem.W
def JB (K:PySem.W.Frag) (te tk:TE):TE:=fun σ H Q=>te σ H fun x H1=>tk σ H1 fun y H2=>y=.int (-1) ∧ ∃ a xs,x=.ref a∧SqL K H2 a xs ∧ ∀ p,H2 p=none→Q (.ref p) (upd H2 p (.lst xs.reverse))
theorem Gh {X:Cx} {e k:Expr} {te tk:TE} {p2 pos:Pos} (he:PE X e te) (hk:PE X k tk):PE X (.Subscript e (.Slice none none (some k) p2) pos) (JB X.K te tk):=by
 intro pins s σ H Q I h
 refine Subscript_ (thn (he pins s σ H _ I h) fun v s1 ⟨x,H1,I1,r1,q1⟩=>?_)
 refine wpAny_Slice ?_
 rw [evalPart_none]
 refine wpAny_pure ?_
 refine wpAny_pure ?_
 rw [evalPart_some]
 refine thn (hk pins s1 σ H1 _ I1 q1) fun vk s3 ⟨y,H3,I3,ry,q3⟩=>?_
 obtain ⟨rfl,a,xs,rfl,hx,q⟩:=q3
 obtain ⟨tk0,rfl⟩:=ry
 cases r1
 have I4:Inv X pins σ H3 { s3 with heap:=s3.heap.push { cls:=.type "slice", data:=.fields #[.none,.none,.int (-1) tk0] } }:=I3.kept (t':=s3.toks) fun b ob q=>Heap.get?_push_of_some _ q
 obtain ⟨its,r,ht,hz⟩:=I4.list hx
 have hlen:=r.length
 show wpAny (model X.prog X.w) X.A (subscriptTail e (.Slice none none (some k) p2) (.ref a) (.ref s3.heap.objs.size)) (EP X pins σ Q) X.xe { s3 with heap:=s3.heap.push { cls:=.type "slice", data:=.fields #[.none,.none,.int (-1) tk0] } }
 refine tail_any (ops:=[.ref a,.ref s3.heap.objs.size]) ht.isList.typeIs slot_list_getitem.lookup ?_ (by with_unfolding_all rfl)
 refine wpAny_getItem_list_slice ht.isList (Heap.IsSliceOf.new ..) .none .none (.int (-1) tk0) (by decide) ?_ (by rw [List.size_toArray]; omega)
 rw [krv_pick]
 refine ⟨.ref _,_,I4.laid (t':=s3.toks) (o:=.lst xs.reverse) (fun b ob q=>Heap.get?_push_of_some _ q) (Nat.le_refl _) ?_,rfl,q _ (I4.hok.fresh (Nat.le_refl _))⟩
 refine ⟨by rw [List.length_reverse]; exact hz,its.reverse,0,r.reverse,?_⟩
 exact Heap.get?_push_size _ rfl
def Cx.tr (X:Cx) (pins:List (Addr × Obj)) (E:XK):Cx:={ X with pn:=X.pn ++ pins,xe:=fun e s' => ∃ σ H s,Inv X pins σ H s∧CX1 X.prog X.w X.stack H s E e s' }
section
variable {X:Cx} {pins pins':List (Addr × Obj)} {E:XK} {σ:St} {H:Hp} {s:Shared}
theorem Cx.Ok.tr (ok:X.Ok):(X.tr pins E).Ok :=
 ⟨ok.mod,ok.kind,ok.glob,ok.blt,ok.above,ok.inj,ok.has,ok.cab,ok.hd,ok.frames,ok.stk,ok.exf,ok.bs,ok.bsz,ok.noex,ok.exfs,ok.funs,ok.frf⟩
theorem Cx.Ok.untr (ok:(X.tr pins E).Ok):X.Ok :=
 ⟨ok.mod,ok.kind,ok.glob,ok.blt,ok.above,ok.inj,ok.has,ok.cab,ok.hd,ok.frames,ok.stk,ok.exf,ok.bs,ok.bsz,ok.noex,ok.exfs,ok.funs,ok.frf⟩
theorem Inv.tr (I:Inv X pins σ H s):Inv (X.tr pins E) [] σ H s :=
 ⟨I.ok.tr,I.os,I.bare,I.base,I.loc,I.cell,I.free,I.freeC,fun p hp=>I.pin p (by
  have hp':p∈(X.pn ++ pins) ++ []:=hp
  rwa [List.append_nil] at hp'),I.hok,I.len⟩
theorem Inv.untr (I:Inv (X.tr pins E) pins' σ H s):Inv X pins σ H s :=
 ⟨I.ok.untr,I.os,I.bare,I.base,I.loc,I.cell,I.free,I.freeC,fun p hp=>I.pin p (List.mem_append_left _ hp),I.hok,I.len⟩
theorem SP.untr {D:Ends} {f:Flow} {s':Shared} (h:SP (X.tr pins E) [] D f s'):SP X pins D f s':=by
 cases f with
 | next=>obtain ⟨σ,H,I,q⟩:=h; exact ⟨σ,H,I.untr,q⟩
 | ret v=>obtain ⟨x,σ,H,I,r,q⟩:=h; exact ⟨x,σ,H,I.untr,r,q⟩
 | brk=>obtain ⟨σ,H,I,q⟩:=h; exact ⟨σ,H,I.untr,q⟩
 | cont=>obtain ⟨σ,H,I,q⟩:=h; exact ⟨σ,H,I.untr,q⟩
end
abbrev TH:=Addr→Ends→St→Hp→Prop
def PH (X:Cx) (hs:List ExceptHandler) (th:TH):Prop := ∀ (pins:List (Addr × Obj)) (ea C t:Addr) (B:Heap) (H':Hp) (s':Shared) (σ:St) (D:Ends) (h5:Heap),
 (∀ h6,Heap.FlyingW B X.stack ea (.ref C) (.ref t) h6→s'.heap.UpToSlots h6→Inv X pins σ (upd H' ea (Ia ea C)) { s' with heap:=h6 }) →
 Heap.FlyingW B X.stack ea (.ref C) (.ref t) h5→s'.heap.UpToSlots h5→H' ea=none→th C D σ H' →
 wpAny (model X.prog X.w) X.A (handleBy (.ref ea) X.env hs) (SP X pins D) X.xe { s' with heap:=h5 }
def Km:TH:=fun _ _ _ _=>False
theorem IK {X:Cx}:PH X [] Km:=fun _ _ _ _ _ _ _ _ _ _ _ _ _ _ z=>z.elim
theorem Hr {X:Cx} {Cw ea C t:Addr} {B:Heap} {h5:Heap} {s':Shared} {cx:Str} {b:Bool} {pins:List (Addr × Obj)} {σ:St} {H:Hp} (ex:Exc X.K X.mg cx Cw) (exk:Gv X.K Cw) (I5:Inv X pins σ H { s' with heap:=h5 })
  (fl5:Heap.FlyingW B X.stack ea (.ref C) (.ref t) h5) (hsub:kitOne X.K (.ref C) (.ref Cw)=some b) {M:Model} {A:Around} {Q:Bool→Shared→Prop} {E:Value→Shared→Prop} (qq:Q b { s' with heap:=h5 }) :
  wpAny M A (excMatches (.ref ea) (.ref Cw)) Q E { s' with heap:=h5 }:=by
 obtain ⟨oe,vs5,hoe,hoc,hod,_⟩:=fl5.first
 by_cases eC:C=Cw
 ·subst eC
  have hb:b=true:=by
   unfold kitOne at hsub
   rw [if_pos (by simp)] at hsub
   exact (Option.some.inj hsub).symm
  subst hb
  obtain ⟨bm,N',nm,qn,bs,hdct,sn,sub,ab,col,dd,k0,k1,k2,k3,k5,mN,hC,hN',hni,T⟩:=Bv I5.kIn ex.q
  exact wpAny_excMatches_sub_self hC hoe hoc (T.hasType PySem.F.excBase_ValueError.hasBase) qq
 ·have hx:exmOne X.K (.ref C) (.ref Cw)=some b:=by
   unfold exmOne
   rw [if_pos (beq_iff_eq.mpr (show subIn X.K (.ref Cw) (.type "BaseException")=some true from exk.mb))]
   unfold kitOne at hsub
   rw [if_neg (by simpa using eC)] at hsub
   exact hsub
  exact (exm_one (M:=M) I5.kIn (Io ⟨oe,vs5,hoe,hoc,hod⟩) hx).at qq
def hNo (K:PySem.W.Frag) (Cw:Addr) (ts:TS) (th:TH):TH:=fun C D σ H => ∃ b,kitOne K (.ref C) (.ref Cw)=some b∧if b=true then (∀ ea,H ea=none →
 ts { nx:=D.nx,rt:=fun _ _=>False } σ (upd H ea (Ia ea C))) else th C D σ H
theorem JK {X:Cx} {Cw:Addr} {cx:Str} {np hpos:Pos} {b0:Stmt} {suite:List Stmt} {ts:TS} {rest:List ExceptHandler} {th:TH}
  (ex:Exc X.K X.mg cx Cw) (exk:Gv X.K Cw) (hgc:Gl X cx)
  (hs : ∀ ea,PSs (X.suite ea) (b0 :: suite) ts) (hr:PH X rest th) (hdc:(cx == ("__debug__" : Str))=false:=by decide) :
  PH X (.ExceptHandler (some (.Name cx np)) none (b0 :: suite) hpos :: rest) (hNo X.K Cw ts th):=by
 intro pins ea C t B H' s' σ D h5 L fl5 up5 nea q
 obtain ⟨b,hsub,q⟩:=q
 have I5:=L h5 fl5 up5
 refine wpAny_handleBy_cons (codeAny_handlers_test (qW (X:=X.suite ea) I5.suite hgc ex.m ?_ hdc)) (by intro z; cases z)
 refine Hr ex exk I5 fl5 hsub ?_
 cases b with
 | false =>
  rw [if_neg Bool.false_ne_true] at q
  exact hr pins ea C t B H' s' σ D h5 L fl5 up5 nea q
 | true =>
  rw [if_pos rfl] at q
  refine codeAny_handlers_suite ?_
  refine lands_againW fl5 fun h6 fl6 up6=>?_
  have I6:=L h6 fl6 (up5.trans up6)
  refine wpAny_mono (hs ea pins _ _ _ _ I6.suite (q ea nea)) (fun fw s8 q8=>?_) fun _ _ z=>False.elim z
  cases fw with
  | next =>
   obtain ⟨σ8,H8,I8,n8⟩:=q8
   exact ⟨σ8,H8,I8.unsuite I5.ok,n8⟩
  | ret v=>obtain ⟨_,_,_,_,_,z⟩:=q8; exact False.elim z
  | brk=>obtain ⟨_,_,_,z⟩:=q8; exact False.elim z
  | cont=>obtain ⟨_,_,_,z⟩:=q8; exact False.elim z
def Jv (tb:XK→TS) (th:TH):TS:=fun D σ H=>tb (fun cv _ H2 => ∃ C,cv=.ref C ∧ ∀ σ':St,σ'.length=σ.length→th C D σ' H2) D σ H
theorem Jh {X:Cx} {body:List Stmt} {h0:ExceptHandler} {hs:List ExceptHandler} {pos:Pos} {tb:XK→TS} {th:TH} (hst:X.stack=X.env :: X.outer) (hfr:X.env.frame=some X.env.locals)
  (hb : ∀ pins E,PSs (X.tr pins E) body (tb E)) (hh:PH X (h0 :: hs) th):PS X (.Try body (h0 :: hs) [] [] pos) (Jv tb th):=by
 intro pins s σ H D I h
 refine wpAny_Try_except ?_
 refine wpAny_mono (hb pins _ [] s σ H D I.tr h) (fun fw s1 q=>?_) fun e s1 q=>?_
 ·have q':=q.untr
  cases fw with
  | next=>exact wpAny_execs_nil q'
  | ret v=>exact q'
  | brk=>exact q'
  | cont=>exact q'
 ·obtain ⟨σ1,H1,s0,I1,ea,C',t',B,H',rfl,os,bare,un,hok,fl,cov,C,eC,q2⟩:=q
  cases eC
  have frm:X.A.frames=some (X.env :: X.outer):=by rw [← hst]; exact I.ok.frames
  refine wpAny_looks_onW (base:=B) frm hfr (by rw [← hst]; exact fl) fun h4 held up4=>wpAny_landsW held fun h5 fl5 up5=>?_
  have fl5':Heap.FlyingW B X.stack ea (.ref C') (.ref t') h5:=by rw [hst]; exact fl5
  obtain ⟨nea,_⟩:=landed I1 os bare un hok fl cov fl5' (up4.trans up5)
  exact hh pins ea C' t' B H' s1 σ1 D h5 (fun h6 fl6 up6=>(landed I1 os bare un hok fl cov fl6 up6).2) fl5' (up4.trans up5) nea (q2 σ1 (by rw [I1.len,I.len]))
end L2
namespace L2
open PySem PySem.Spec PyProof.Rows PySem.W
def Gu (r r' r'':R2) (ta tb tc td:TE):TE:=fun σ H Q=>ta σ H fun x H1=>tb σ H1 fun y H2=>r x y H2 fun z H3 => ∃ k,z=.bl k ∧
 (if k=true then tc σ H3 fun w' H4=>r' y w' H4 fun z2 H5 => ∃ k2,z2=.bl k2∧(if k2=true then td σ H5 fun w2 H6=>r'' w' w2 H6 Q else Q (.bl false) H5) else Q (.bl false) H3)
theorem u9 {X:Cx} {a b c d:Expr} {ta tb tc td:TE} {pos:Pos} {op op' op'':CmpOp} {r r' r'':R2} (ho:OpR X (compareOp op) r) (ho':OpR X (compareOp op') r') (ho'':OpR X (compareOp op'') r'') (ha:PE X a ta) (hb:PE X b tb) (hc:PE X c tc) (hd:PE X d td)
  (hm:lastMarks [op,op',op''] [b,c,d]=false:=by with_unfolding_all rfl):PT X (.Compare a [op,op',op''] [b,c,d] pos) (Ef (Gu r r' r'' ta tb tc td)):=by
 intro pins s σ H Q I h
 refine isTrue_chain (thn (ha pins s σ H _ I h) fun v s1 ⟨x,H1,I1,r1,q1⟩=>test_link (thn (hb pins s1 σ H1 _ I1 q1) fun u s2 ⟨y,H2,I2,r2,q2⟩ =>
  thn (ho pins s2 σ H2 x y v u _ I2 r1 r2 q2) fun d s3 ⟨z,H3,I3,r3,k,e,q3⟩=>?_)) hm
 subst e
 cases r3
 refine wpAny_truthy_bool ?_
 cases k with
 | false =>
  obtain ⟨k',e',q'⟩:=q3
  cases e'
  exact ite_ff ⟨H3,I3,q'⟩
 | true =>
  refine ite_tt (test_link (thn (hc pins s3 σ H3 _ I3 q3) fun w' s4 ⟨z',H4,I4,r4,q4⟩=>thn (ho' pins s4 σ H4 y z' u w' _ I4 r2 r4 q4) fun d' s5 ⟨z2,H5,I5,r5,k2,e2,q5⟩=>?_))
  subst e2
  cases r5
  refine wpAny_truthy_bool ?_
  cases k2 with
  | false =>
   obtain ⟨k',e',q'⟩:=q5
   cases e'
   exact ite_ff ⟨H5,I5,q'⟩
  | true =>
   refine ite_tt (test_last (thn (hd pins s5 σ H5 _ I5 q5) fun w2 s6 ⟨z3,H6,I6,r6,q6⟩=>thn (ho'' pins s6 σ H6 z' z3 w' w2 _ I6 r4 r6 q6) fun d2 s7 ⟨z4,H7,I7,r7,k3,e3,q7⟩=>?_))
   subst e3
   cases r7
   exact wpAny_truthy_bool ⟨H7,I7,q7⟩
end L2
set_option Elab.async false
set_option linter.all false
set_option maxRecDepth 100000
set_option maxHeartbeats 4000000
namespace L2
open PySem PySem.Spec PyProof.Rows
section
variable {X:Cx}
theorem uO (hc:X.calm=true):jj X (.type "set") (fun xs H Q => ∃ (p:Addr) (ns:List Int),xs=[.ref p]∧SqL X.K H p (ns.map V.int)∧ns.length + 1 < scanBound ∧
  ∀ l S n,H l=none→n≤ns.length→Q (.ref l) (upd H l (.set S n))):=by
 intro pins s σ H xs us Q I r h
 obtain ⟨p,ns,rfl,hq,hb,q⟩:=h
 obtain ⟨u,rfl,rx⟩:=vals1 r
 cases rx
 obtain ⟨its,r',pl,hz⟩:=I.list hq
 have hi:=intsAre_of r'
 have hlen:=hi.length
 refine call_set_list (ns:=ns) (I.ok.hd hc) pl.isList (by simpa using hi) (by simp; omega) fun h' tk hS hk=>?_
 have kp : ∀ b o,s.heap.get? b=some o→h'.get? b=some o:=fun b o e=>hk b o (Heap.lt_size e) e
 have hl:(firstMet (fun i=>ns.getD i 0) its.toArray.size).length≤ns.length:=by
  have:=firstMet_length_le (fun i=>ns.getD i 0) its.toArray.size
  simp at this ⊢
  omega
 exact ⟨.ref s.heap.objs.size,_,I.laid (t':=tk) kp (Nat.le_refl _) (show cD X.prog X.w _ h' _ (.set _ _) from hS),rfl,q _ _ _ (I.hok.fresh (Nat.le_refl _)) hl⟩
theorem uT:jj X (.builtin "len") (fun xs H Q => ∃ (p:Addr) (S:Int→Bool) (n:Nat),xs=[.ref p]∧H p=some (.set S n)∧n < 2 ^ 62∧Q (.int (n:Int)) H):=by
 intro pins s σ H xs us Q I r h
 obtain ⟨p,S,n,rfl,hp,hn,q⟩:=h
 obtain ⟨u,rfl,rx⟩:=vals1 r
 cases rx
 have hS:s.heap.SetOf (intKind X.prog X.w) p S n:=I.hok p _ hp
 obtain ⟨o,es,ep,t,ho,hex,hd,hel,hmem,hb,hf,hns⟩:=hS
 refine call_len_set ho hex hd hf (by omega) ?_
 exact ⟨.int (n:Int),H,I.tok (s.toks + 1 + 1),⟨_,by rw [← hns]⟩,q⟩
end
end L2
set_option Elab.async false
set_option linter.all false
set_option maxRecDepth 100000
set_option maxHeartbeats 4000000
namespace L2
open PySem PySem.Spec PyProof.Rows PySem.W
def aP (a:Addr) (o:Obj):HO:=.ext fun h=>h.get? a=some o
theorem dZ {P:Program} {w:World} {H:Hp} {h:Heap} {a:Addr} {o:Obj} (e:h.get? a=some o):cD P w H h a (aP a o):=⟨e,⟨o,e⟩,fun _ _ p k=>k o p⟩
theorem cX {P:Program} {w:World} {H:Hp} {h:Heap} {a:Addr} {o:Obj} (hok:HOk P w H h) (e:H a=some (aP a o)):h.get? a=some o:=(hok a _ e).1
def hide (H:Hp) (cs:List Addr):Hp:=fun b=>if b∈cs then none else H b
def over (H:Hp) (cs:List Addr) (H':Hp):Hp:=fun b=>if b∈cs then H b else H' b
theorem lK {H:Hp} {cs:List Addr} {b:Addr} (h:b∈cs):hide H cs b=none:=if_pos h
theorem bF {H:Hp} {cs:List Addr} {b:Addr} (h:b ∉ cs):hide H cs b=H b:=if_neg h
theorem rm {H H':Hp} {cs:List Addr} {b:Addr} (h:b∈cs):over H cs H' b=H b:=if_pos h
theorem dG {H H':Hp} {cs:List Addr} {b:Addr} (h:b ∉ cs):over H cs H' b=H' b:=if_neg h
theorem pA (H:Hp) (cs:List Addr):over H cs (hide H cs)=H:=by
 funext b
 by_cases h:b∈cs
 ·rw [rm h]
 ·rw [dG h,bF h]
theorem Fp {H H':Hp} {cs:List Addr} {a:Addr} {o:HO} (h:a ∉ cs):over H cs (upd H' a o)=upd (over H cs H') a o:=by
 funext b
 by_cases hb:b∈cs
 ·have:b ≠ a:=fun e=>h (e ▸ hb)
  rw [rm hb,aJ this,rm hb]
 ·rw [dG hb]
  by_cases e:b=a
  ·subst e
   rw [az,az]
  ·rw [aJ e,aJ e,dG hb]
section
variable {P:Program} {w:World} {H H':Hp} {h h':Heap} {cs:List Addr}
theorem Bp (hok:HOk P w H h) (hx : ∀ a∈cs,∃ o,H a=some (aP a o)):HOk P w (hide H cs) h:=fun b u e=>by
 have hb:b ∉ cs:=fun z=>by rw [lK z] at e; cases e
 rw [bF hb] at e
 refine (hok b u e).stay (fun _ _ _ q=>q) (fun c q=>?_) fun c xs q=>?_
 ·rw [bF]
  ·exact q
  ·intro z
   obtain ⟨o,e2⟩:=hx c z
   rw [q] at e2
   cases e2
 ·rw [bF]
  ·exact q
  ·intro z
   obtain ⟨o,e2⟩:=hx c z
   rw [q] at e2
   cases e2
theorem BV {fs:List Addr} (hok:HOk P w H h) (hok':HOk P w H' h') (hx : ∀ a∈cs,∃ o,H a=some (aP a o)) (hf : ∀ b∈fs,H b=none) (u:Un fs [] (hide H cs) H' h h') :
  HOk P w (over H cs H') h'∧Un fs [] H (over H cs H') h h':=by
 have get : ∀ a∈cs,∃ o,H a=some (aP a o)∧h.get? a=some o:=fun a ha=>by
  obtain ⟨o,e⟩:=hx a ha
  exact ⟨o,e,cX hok e⟩
 have gone : ∀ a∈cs,H' a=none:=fun a ha=>by
  obtain ⟨o,_,e⟩:=get a ha
  exact u.free a o e (lK ha) (by simp)
 have out : ∀ b,H b=none→b ∉ cs:=fun b n z=>by
  obtain ⟨o,e,_⟩:=get b z
  rw [n] at e
  cases e
 refine ⟨fun b v e=>?_,fun b o e n hb hx'=>?_,fun b o e n hb hx'=>?_,fun b o e n hx'=>?_,fun b o e hx'=>u.there b o e hx',fun b xs e=>?_,fun b o v e=>?_,fun b ps e=>?_⟩
 ·by_cases hb:b∈cs
  ·obtain ⟨o,e1,e2⟩:=get b hb
   rw [rm hb,e1] at e
   cases e
   exact dZ (u.keep b o e2 (lK hb) (fun z=>by rw [hf b z] at e1; cases e1) (by simp))
  ·rw [dG hb] at e
   refine (hok' b v e).stay (fun _ _ _ q=>q) (fun c q=>?_) fun c xs q=>?_
   ·rw [dG]
    ·exact q
    ·intro z
     rw [gone c z] at q
     cases q
   ·rw [dG]
    ·exact q
    ·intro z
     rw [gone c z] at q
     cases q
 ·exact u.keep b o e (by rw [bF (out b n)]; exact n) hb hx'
 ·exact u.slot b o e (by rw [bF (out b n)]; exact n) hb hx'
 ·rw [dG (out b n)]
  exact u.free b o e (by rw [bF (out b n)]; exact n) hx'
 ·have hb:b ∉ cs:=fun z=>by
   obtain ⟨o,e1⟩:=hx b z
   rw [e] at e1
   cases e1
  rw [dG hb]
  exact u.tups b xs (by rw [bF hb]; exact e)
 ·have hb:b ∉ cs:=fun z=>by
   obtain ⟨o,e1⟩:=hx b z
   rw [e] at e1
   cases e1
  rw [dG hb]
  exact u.frzs b o v (by rw [bF hb]; exact e)
 ·have hb:b ∉ cs:=fun z=>by
   obtain ⟨o,e1⟩:=hx b z
   rw [e] at e1
   cases e1
  rw [dG hb]
  exact u.tbls b ps (by rw [bF hb]; exact e)
end
structure o9 where
 name:Str
 qual:Str
 params:Arguments
 body:List Stmt
 scope:Scope
 ps:List Str
 xs:List Str
structure cN (H:Hp) (f:Addr) (c:o9) (cs:List Addr) (fvs:List V):Prop where
 ex : ∃ (cd:Addr) (doc pm ctv:Value) (oc:Obj) (vs:Array Value) (t:Tok),H f=some (aP f (fnMade c.name c.qual c.params c.body c.scope (c.xs.zip cs) doc pm cd ctv))∧H cd=some (aP cd oc)∧oc.data=.fields vs∧vs[1]?=some (.str c.qual t)
 cells : ∀ (i:Nat) (a:Addr),cs[i]?=some a → ∃ (co:Obj) (v:V) (u:Value),fvs[i]?=some v∧H a=some (aP a co)∧co.data=.cell (some u)∧RelV v u
 nd:cs.Nodup
 len:cs.length=c.xs.length
 lenV:fvs.length=c.xs.length
theorem cN.same {H H':Hp} {f:Addr} {c:o9} {cs:List Addr} {fvs:List V} (h:cN H f c cs fvs) (s : ∀ b o,H b=some (aP b o)→H' b=some (aP b o)):cN H' f c cs fvs:=by
 obtain ⟨⟨cd,doc,pm,ctv,oc,vs,t,h1,h2,h3,h4⟩,hc,nd,len,lenV⟩:=h
 refine ⟨⟨cd,doc,pm,ctv,oc,vs,t,s _ _ h1,s _ _ h2,h3,h4⟩,fun i a e=>?_,nd,len,lenV⟩
 obtain ⟨co,v,u,e1,e2,e3⟩:=hc i a e
 exact ⟨co,v,u,e1,s _ _ e2,e3⟩
structure nW (N:List Str) (c:o9):Prop where
 kind:c.scope.kind=.function
 co:c.scope.isCoroutine=false
 gen:c.scope.isGenerator=false
 nocell : ∀ x∈c.scope.names,x.2 ≠ .cell
 pre:N.take (c.ps.length + c.xs.length)=c.ps ++ c.xs
 nd:N.Nodup
 par : ∀ n∈c.ps,c.scope.names.lookup n=some .local
 fr : ∀ x∈c.scope.names,x.2=.free→x.1∈c.xs
 frn : ∀ n∈c.xs,c.scope.names.lookup n ≠ some .local
def qp (P:Program) (w:World) (K:PySem.W.Frag) (mg:Str→Option Value) (base:Heap) (N:List Str) (qual:Str) (scope:Scope) (f:Addr) (cd:Value) (cl:List (Str × Addr)) (A:Around) (outer:List Env) (s:Shared) (H:Hp):Cx where
 prog:=P
 w:=w
 K:=K
 mg:=mg
 base:=base
 A:=A.deeper (envX qual scope s.heap.objs.size f cd cl)
 N:=N
 s₀:=s
 H₀:=H
 env:=envX qual scope s.heap.objs.size f cd cl
 outer:=outer
 stack:=envX qual scope s.heap.objs.size f cd cl :: outer
 ex:=[]
 calm:=true
 fn:=fun _=>false
 pn:=[]
 xe:=fun _ _=>False
theorem cV : ∀ {xs:List Str} {cs:List Addr} {x:Str} {c:Addr},(xs.zip cs).lookup x=some c → ∃ i:Nat,xs[i]?=some x∧cs[i]?=some c
 | [],_,_,_,h=>by simp at h
 | _ :: _,[],_,_,h=>by simp at h
 | y :: xs,d :: cs,x,c,h=>by
  rw [List.zip_cons_cons,List.lookup_cons] at h
  cases hb:x == y with
  | true =>
   rw [hb] at h
   cases h
   exact ⟨0,by rw [eq_of_beq hb]; rfl,rfl⟩
  | false =>
   rw [hb] at h
   obtain ⟨i,h1,h2⟩:=cV h
   exact ⟨i + 1,h1,h2⟩
theorem wO : ∀ {xs:List Str} {cs:List Addr} {x:Str},cs.length=xs.length→x∈xs → ∃ c,(xs.zip cs).lookup x=some c
 | [],_,_,_,h=>by simp at h
 | _ :: _,[],_,l,_=>by simp at l
 | y :: xs,d :: cs,x,l,h=>by
  rw [List.zip_cons_cons,List.lookup_cons]
  cases hb:x == y with
  | true=>exact ⟨d,rfl⟩
  | false =>
   rcases List.mem_cons.mp h with e | e
   ·rw [e] at hb
    simp at hb
   ·exact wO (by simpa using l) e
theorem Ao : ∀ {xs:List Str} {cs:List Addr} {i:Nat} {x:Str} {c:Addr},xs.Nodup→xs[i]?=some x→cs[i]?=some c→(xs.zip cs).lookup x=some c
 | [],_,_,_,_,_,h,_=>by simp at h
 | _ :: _,[],_,_,_,_,_,h=>by simp at h
 | y :: xs,d :: cs,0,x,c,_,h1,h2=>by
  simp at h1 h2
  subst h1 h2
  simp
 | y :: xs,d :: cs,i + 1,x,c,nd,h1,h2=>by
  have h1':xs[i]?=some x:=by simpa using h1
  have hne:(x == y)=false:=by
   cases hb:x == y with
   | false=>rfl
   | true =>
    rw [eq_of_beq hb] at h1'
    exact absurd (List.mem_of_getElem? h1') (List.nodup_cons.mp nd).1
  rw [List.zip_cons_cons,List.lookup_cons,hne]
  exact Ao (List.nodup_cons.mp nd).2 h1' (by simpa using h2)
theorem lookup_mem : ∀ {l:List (Str × Value)} {y:Str} {u:Value},(l.map (·.1)).Nodup→(y,u)∈l→l.lookup y=some u
 | [],_,_,_,h=>by simp at h
 | (z,v) :: l,y,u,nd,h=>by
  rw [List.map_cons] at nd
  rw [List.lookup_cons]
  rcases List.mem_cons.mp h with e | e
  ·cases e
   simp
  ·cases hb:y == z with
   | true =>
    rw [eq_of_beq hb] at e
    exact absurd (List.mem_map.mpr ⟨_,e,rfl⟩) (List.nodup_cons.mp nd).1
   | false=>exact lookup_mem (List.nodup_cons.mp nd).2 e
theorem qx : ∀ (ps:List Str) (us:List Value),((ps.zip us).map (·.1)).Sublist ps
 | [],_=>by simp
 | _ :: _,[]=>by simp
 | p :: ps,u :: us=>by
  rw [List.zip_cons_cons,List.map_cons]
  exact (qx ps us).cons₂ _
theorem BW {ps:List Str} {us:List Value} {i:Nat} {y:Str} {u:Value} (nd:ps.Nodup) (h1:ps[i]?=some y) (h2:us[i]?=some u):(ps.zip us).reverse.lookup y=some u:=by
 refine lookup_mem ?_ ?_
 ·rw [List.map_reverse]
  refine List.pairwise_reverse.mpr (List.Pairwise.imp (fun h=>Ne.symm h) (show ((ps.zip us).map (·.1)).Nodup from nd.sublist (qx ps us)))
 ·rw [List.mem_reverse]
  exact List.mem_of_getElem? (i:=i) (by rw [List.getElem?_zip_eq_some]; exact ⟨h1,h2⟩)
section
variable {P:Program} {w:World} {K:PySem.W.Frag} {mg:Str→Option Value} {base:Heap} {A:Around} {outer:List Env} {s:Shared} {H:Hp} {f:Addr} {c:o9} {cs:List Addr} {fvs vs:List V} {us:List Value} {N:List Str} {k:Nat} {Q:VK} {E:XK}
theorem GZ (S:nW N c) (hr:dN (k + 1) A) (e0:Bf P w K mg base A outer s H) (ca:cN H f c cs fvs) (hb : ∀ (cl:List (Str × Addr)) (doc pm cd ctv:Value),BindsTo s (fnX c.name c.qual c.params c.body c.scope cl .none .none doc pm none cd ctv) ⟨us,[]⟩ (c.ps.zip us)) (r:Vals vs us) (hl:vs.length=c.ps.length)
  (body : ∀ cd:Addr,dN k (A.deeper (envX c.qual c.scope s.heap.objs.size f (.ref cd) (c.xs.zip cs))) → ∃ t,PSs (qp P w K mg base N c.qual c.scope f (.ref cd) (c.xs.zip cs) A outer s (hide H cs)) c.body t∧t { nx:=fun _ H'=>Q .non (over H cs H'),rt:=fun v H'=>Q v (over H cs H') } (start N (vs ++ fvs)) (hide H cs)) :
  codeAny (model P w) A (.call (.ref f) ⟨us,[]⟩) (CR CX0 outer P w H s Q E) s:=by
 obtain ⟨⟨cd,doc,pm,ctv,oc,ws,tk,h1,h2,h3,h4⟩,hc,nd,len,lenV⟩:=ca
 have hx : ∀ a∈cs,∃ o,H a=some (aP a o):=fun a ha=>by
  obtain ⟨i,hi⟩:=List.getElem?_of_mem ha
  obtain ⟨co,v,u,_,e,_⟩:=hc i a hi
  exact ⟨co,e⟩
 have lim:s.heap.NoLimit:=e0.mod.nolimit.keeps fun b o e=>(e0.bs b o e).1
 have ndP:c.ps.Nodup:=by
  have:c.ps.Sublist N:=by
   have h5:(c.ps ++ c.xs).Sublist N:=by rw [← S.pre]; exact List.take_sublist _ _
   exact (List.sublist_append_left _ _).trans h5
  exact S.nd.sublist this
 have ndX:c.xs.Nodup:=by
  have:c.xs.Sublist N:=by
   have h5:(c.ps ++ c.xs).Sublist N:=by rw [← S.pre]; exact List.take_sublist _ _
   exact (List.sublist_append_right _ _).trans h5
  exact S.nd.sublist this
 have hpl:c.ps.length + c.xs.length≤N.length:=by
  have:=congrArg List.length S.pre
  rw [List.length_take,List.length_append] at this
  omega
 refine codeAny_call_def (fd:=fnX c.name c.qual c.params c.body c.scope (c.xs.zip cs) .none .none doc pm none (.ref cd) ctv) (binds:=c.ps.zip us) hr.depth (cX e0.hok h1) rfl lim ⟨cd,oc,ws,tk,rfl,cX e0.hok h2,h3,h4⟩ rfl (hb _ _ _ _ _) S.nocell (fun y hy=>S.par _ (List.of_mem_zip hy).1) (fun h0 hns hk=>?_) S.co S.gen S.kind
 obtain ⟨t,ht,hq⟩:=body cd (hr.deeper _)
 have hok0:=Bp e0.hok hx
 have I:Inv (qp P w K mg base N c.qual c.scope f (.ref cd) (c.xs.zip cs) A outer s (hide H cs)) [] (start N (vs ++ fvs)) (hide H cs) { s with heap:=h0,toks:=s.toks + (c.ps.zip us).length }:=by
  refine ⟨⟨e0.mod,S.kind,rfl,rfl,Nat.le_refl _,fun y z b h5 h6=>?_,fun y hy=>?_,fun y b h5 _=>absurd h5 Bool.false_ne_true,fun _=>hr.hd,Around.frames_deeper e0.frames,.inr ⟨rfl,rfl⟩,fun b z=>absurd (show b∈([]:List Addr) from z) (by simp),fun b o e=>⟨(e0.bs b o e).1,?_⟩,e0.bsz,fun b _ _ z=>absurd (show b∈([]:List Addr) from z) (by simp),fun b z=>absurd (show b∈([]:List Addr) from z) (by simp),e0.funs,fun b hb'=>?_⟩,
   rfl,e0.bare,Un.kept hk,⟨_,hns,fun i y v h5 h6 h7=>?_⟩,fun y b h5=>?_,hok0.fresh (Nat.le_refl _),fun y b h5=>?_,fun p hp=>absurd (show p∈([]:List (Addr × Obj)) from hp) (by simp),hok0.kept hk,?_⟩
  ·obtain ⟨i,i1,i2⟩:=cV h5
   obtain ⟨j,j1,j2⟩:=cV h6
   have:=(List.getElem?_inj (List.getElem?_eq_some_iff.mp i2).1 nd).mp (i2.trans j2.symm)
   subst this
   exact Option.some.inj (i1.symm.trans j1)
  ·have hy:c.scope.names.lookup y=some .cell∨c.scope.names.lookup y=some .free:=hy
   rcases hy with hy | hy
   ·exact absurd rfl (S.nocell _ (PySem.mem_of_lookup hy))
   ·exact wO len (S.fr _ (PySem.mem_of_lookup hy) rfl)
  ·have n:=(e0.bs b o e).2
   show hide H cs b=none
   rw [bF]
   ·exact n
   ·intro z
    obtain ⟨o',e'⟩:=hx b z
    rw [n] at e'
    cases e'
  ·have n:=e0.frf b hb'
   show hide H cs b=none
   rw [bF]
   ·exact n
   ·intro z
    obtain ⟨o',e'⟩:=hx b z
    rw [n] at e'
    cases e'
  ·have hi:i < (vs ++ fvs).length:=by
    unfold start at h6
    by_cases hi:i < (vs ++ fvs).length
    ·exact hi
    ·rw [List.getElem?_append_right (by simpa using hi)] at h6
     rw [List.getElem?_replicate] at h6
     split at h6 <;> cases h6
   have ha:(vs ++ fvs)[i]?=some v:=by
    unfold start at h6
    rw [List.getElem?_append_left (by simpa using hi),List.getElem?_map] at h6
    cases e:(vs ++ fvs)[i]? with
    | none=>rw [e] at h6; cases h6
    | some a=>rw [e] at h6; cases h6; rfl
   rw [List.length_append] at hi
   have hp:(c.ps ++ c.xs)[i]?=some y:=by
    rw [← S.pre,List.getElem?_take_of_lt (by omega)]
    exact h5
   by_cases hi2:i < vs.length
   ·rw [List.getElem?_append_left hi2] at ha
    rw [List.getElem?_append_left (by omega)] at hp
    obtain ⟨u,hu,rv⟩:=r.get ha
    exact ⟨u,rv,.inl ⟨S.par y (List.mem_of_getElem? hp),BW ndP hp hu⟩⟩
   ·rw [List.getElem?_append_right (by omega)] at ha
    rw [List.getElem?_append_right (by omega),← hl] at hp
    have hj:i - vs.length < cs.length:=by
     have:=(List.getElem?_eq_some_iff.mp hp).1
     omega
    obtain ⟨b,hb5⟩ : ∃ b,cs[i - vs.length]?=some b:=⟨_,List.getElem?_eq_getElem hj⟩
    obtain ⟨co,v',u,q1,q2,q3,q4⟩:=hc _ b hb5
    rw [ha] at q1
    cases q1
    have hfree:c.scope.names.lookup y=some .free:=by
     rcases h7 with q | q | q
     ·exact absurd q (S.frn y (List.mem_of_getElem? hp))
     ·exact absurd rfl (S.nocell _ (PySem.mem_of_lookup q))
     ·exact q
    exact ⟨u,q4,.inr ⟨.inr hfree,b,Ao ndX hp hb5,co,hk _ _ (cX e0.hok q2),q3⟩⟩
  ·obtain ⟨i,i1,i2⟩:=cV h5
   obtain ⟨co,v',u,q1,q2,q3,q4⟩:=hc _ b i2
   exact ⟨_,co,hk _ _ (cX e0.hok q2),q3⟩
  ·obtain ⟨i,i1,i2⟩:=cV h5
   exact lK (List.mem_of_getElem? i2)
  ·unfold start
   show _=N.length
   rw [List.length_append,List.length_map,List.length_replicate,List.length_append]
   omega
 have fin : ∀ {s':Shared} {σ':St} {H':Hp} {v:V} {u:Value},Inv (qp P w K mg base N c.qual c.scope f (.ref cd) (c.xs.zip cs) A outer s (hide H cs)) [] σ' H' s'→RelV v u→Q v (over H cs H')→CE outer P w H s Q u s':=fun {s' σ' H' v u} J rv q=>by
  obtain ⟨k1,k2⟩:=BV e0.hok J.hok hx e0.frf J.base
  exact ⟨v,over H cs H',J.os,J.bare,k2,k1,rv,q⟩
 refine wpAny_mono (ht [] _ (start N (vs ++ fvs)) (hide H cs) _ I hq) (fun fl s' hs=>?_) fun e s' hs=>False.elim hs
 cases fl with
 | ret u =>
  obtain ⟨v,σ',H',J,rv,q⟩:=hs
  exact fin J rv q
 | next =>
  obtain ⟨σ',H',J,q⟩:=hs
  exact fin (v:=V.non) (u:=Value.none) J rfl q
 | brk =>
  obtain ⟨_,_,_,q⟩:=hs
  exact False.elim q
 | cont =>
  obtain ⟨_,_,_,q⟩:=hs
  exact False.elim q
end
end L2
set_option Elab.async false
set_option linter.all false
set_option maxRecDepth 100000
set_option maxHeartbeats 4000000
namespace L2
open PySem PySem.Spec PyProof.Rows PySem.W
def nA (P:Program) (w:World) (K:PySem.W.Frag) (mg:Str→Option Value) (base:Heap) (k:Nat) (sp:Addr→Sp):Prop :=
 ∀ (f:Addr) (A:Around) (outer:List Env) (s:Shared) (H:Hp) (us:List Value) (vs:List V) (Q:VK),dN k A→Bf P w K mg base A outer s H→Vals vs us→sp f vs H Q E0 →
  codeAny (model P w) A (.call (.ref f) ⟨us,[]⟩) (CR CX0 outer P w H s Q E0) s
theorem nA.mono {P:Program} {w:World} {K:PySem.W.Frag} {mg:Str→Option Value} {base:Heap} {j k:Nat} {sp:Addr→Sp} (F:nA P w K mg base j sp) (h:j≤k):nA P w K mg base k sp :=
 fun f A outer s H us vs Q hr=>F f A outer s H us vs Q (hr.mono h)
def Hq (i:Nat) (sp:Addr→Sp) (t:TA):TE:=fun σ H Q => ∃ f o fd,σ[i]?=some (some (.ref f))∧H f=some (aP f o)∧o.data=.func fd∧t σ H fun vs H1=>H1 f=some (aP f o)∧sp f vs H1 Q E0
section
variable {X:Cx} {k i:Nat} {x:Str} {p pos:Pos} {e:Expr} {es:List Expr} {t:TA} {sp:Addr→Sp}
theorem dg (C:nA X.prog X.w X.K X.mg X.base k sp) (hr:dN k X.A) (hi:X.N[i]?=some x) (ha:PA X (e :: es) t) (hv:Vis X.env.scope x:=by first | exact Or.inl rfl | exact Or.inr (Or.inl rfl) | exact Or.inr (Or.inr rfl))
  (hd:(x == ("__debug__" : Str))=false:=by decide) (hcd:(x == ("__classdict__" : Str))=false:=by decide)
  (he:starEach (e :: es) X.env=(false,eval e X.env) :: starEach es X.env:=by rfl) (hpl:(backTo pos (starEach es X.env)).any (·.1)=false:=by rfl):PE X (.Call (.Name x p) (e :: es) [] pos) (Hq i sp t):=by
 intro pins s σ H Q I h
 obtain ⟨f,o,fd,hs,hf,ho,h⟩:=h
 refine wpAny_Call_Name_kw (thn (wI hi hv hd hcd pins s σ H (fun v H'=>v=.ref f∧H'=H) I ⟨_,hs,rfl,rfl⟩) fun u s1 hu=>?_)
 obtain ⟨v,H1,I1,rv,rfl,rfl⟩:=hu
 obtain rfl:u=Value.ref f:=rv
 have fa : ∀ {H:Hp} {s:Shared},Inv X pins σ H s→H f=some (aP f o)→FnAt f s.heap:=fun {H s} J hf=>by
  obtain ⟨oc,od,dt,sl⟩:=o
  have ho:dt=.func fd:=ho
  subst ho
  exact ⟨oc,od,fd,sl,cX J.hok hf⟩
 refine callWith_F (fa I1 hf) (thn (ha pos pins s1 σ H1 _ I1 h) fun us s2 ⟨vs,H2,I2,r,hf2,q⟩=>⟨fa I2 hf2,?_⟩) he hpl
 refine wpAny_call (codeAny_mono (C f X.A X.stack s2 H2 us vs Q hr I2.env0 r q) fun r s' hq=>?_)
 cases r with
 | error e=>exact False.elim hq
 | ok fl =>
  cases fl with
  | ret u=>exact I2.after hq
  | next=>exact False.elim hq
  | brk=>exact False.elim hq
  | cont=>exact False.elim hq
end
def BMain (mg:Str→Option Value) (h:Heap):Prop := ∃ bm ob,mg "__builtins__" = some (.ref bm)∧bm ≠ builtinsNs∧h.get? bm=some ob∧ob.cls=.type "module" ∧ ob.dict=some builtinsNs∧ob.data=.plain
def TabAt (H:Hp) (P:Addr) (pos:Pos) (qual:Str):Prop := ∃ ps:Array Value,H P=some (.tbl ps)∧TriplesOk ps.toList ∧
 (codeAmong pos ps.toList=none ∨ ∃ (cd:Addr) (oc:Obj) (vs:Array Value) (t:Tok),codeAmong pos ps.toList=some (.ref cd)∧H cd=some (aP cd oc)∧oc.data=.fields vs∧vs[1]?=some (.str qual t))
section
variable {X:Cx} {pins:List (Addr × Obj)} {σ:St} {H:Hp} {s:Shared} {c P:Addr} {name qual:Str} {params:Arguments} {body:List Stmt} {scope:Scope} {clos:List (Str × Addr)} {pos:Pos} {n:Nat}
theorem Gz {M:Model} {A:Around} {E:Value→Shared→Prop} {Q:Value→Shared→Prop} (I:Inv X pins σ H s) (bm:BMain X.mg X.base) (hcode:X.env.code=.ref c) (C:CodeHd X.base c P) (hT:TabAt H P pos qual) (hcl:closureFor scope X.env=pure clos)
  (h : ∀ (fi cd:Addr) (doc pm ctv:Value) (oc:Obj) (vs:Array Value) (t:Tok) (H1:Hp) (s1:Shared),Inv X pins σ H1 s1→H fi=none→(∀ b o,H b=some o→b ≠ P→H1 b=some o)→TabAt H1 P pos qual →
   H1 fi=some (aP fi (fnMade name qual params body scope clos doc pm cd ctv))→H1 cd=some (aP cd oc)→oc.data=.fields vs→vs[1]?=some (.str qual t)→Q (.ref fi) s1) :
  wpAny M A (makeFunction name qual params (.stmts body) scope X.env [] [] [] pos n) Q E s:=by
 obtain ⟨ps,hP,htr,hcase⟩:=hT
 have hPs:s.heap.get? P=some (tabObj ps):=I.hok P _ hP
 have G:=I.mod.glob.keeps I.bk
 obtain ⟨bm,ob,b1,b2,b3,b4,b5,b6⟩:=bm
 have b3':=I.bk _ _ b3
 have hgP:mainGlobals ≠ P:=fun q=>by
  obtain ⟨o,es,ep,e,hd,_⟩:=G
  rw [q,hPs] at e; cases e; cases hd
 have hbP:bm ≠ P:=fun q=>by
  rw [q,hPs] at b3'; cases b3'; cases b4
 have hbG:bm ≠ mainGlobals:=fun q=>by
  obtain ⟨o,es,ep,e,hd,_⟩:=G
  rw [q,e] at b3'; cases b3'; rw [hd] at b6; cases b6
 have hbu:s.heap.BuiltinsAt X.mg P:=⟨bm,ob,b1,b2,hbG,hbP,b3',b4,b5,b6⟩
 rcases hcase with hnf | ⟨cd,oc,vs,t,hf,hcd,hd,hv⟩
 ·refine makeFunction_K (mg:=X.mg) hcl I.ok.glob G hcode (C.keeps I.bk) hPs htr hnf hgP hbu fun c' ctv doc h' tk hx hge hlt hrec htb=>?_
  obtain ⟨c2,oc,vs,t,e2,hoc,hd,hv⟩:=hrec
  cases e2
  have nc:H c'=none:=I.hok.fresh hge
  have nf:H h'.objs.size=none:=I.hok.fresh (Nat.le_trans hge (Nat.le_of_lt hlt))
  have nPc:P ≠ c':=aN hP nc
  have nPf:P ≠ h'.objs.size:=aN hP nf
  have ncf:c' ≠ h'.objs.size:=Nat.ne_of_lt hlt
  have k1 : ∀ b,b ≠ P→b ≠ c'→b ≠ h'.objs.size→upd (upd (upd H P (.tbl (ps ++ #[rawInt pos.line,rawInt pos.col,.ref c']))) c' (aP c' oc)) h'.objs.size (aP h'.objs.size (fnMade name qual params body scope clos doc ((X.mg "__name__").getD .none) c' ctv)) b=H b:=fun b e1 e2 e3=>by
   rw [aJ e3,aJ e2,aJ e1]
  have kS : ∀ b o,H b=some o→b ≠ P→upd (upd (upd H P (.tbl (ps ++ #[rawInt pos.line,rawInt pos.col,.ref c']))) c' (aP c' oc)) h'.objs.size (aP h'.objs.size (fnMade name qual params body scope clos doc ((X.mg "__name__").getD .none) c' ctv)) b=some o:=fun b o e n=>by
   rw [k1 b n (aN e nc) (aN e nf)]
   exact e
  have kP:upd (upd (upd H P (.tbl (ps ++ #[rawInt pos.line,rawInt pos.col,.ref c']))) c' (aP c' oc)) h'.objs.size (aP h'.objs.size (fnMade name qual params body scope clos doc ((X.mg "__name__").getD .none) c' ctv)) P=some (.tbl (ps ++ #[rawInt pos.line,rawInt pos.col,.ref c'])):=by
   rw [aJ nPf,aJ nPc,az]
  have kc:upd (upd (upd H P (.tbl (ps ++ #[rawInt pos.line,rawInt pos.col,.ref c']))) c' (aP c' oc)) h'.objs.size (aP h'.objs.size (fnMade name qual params body scope clos doc ((X.mg "__name__").getD .none) c' ctv)) c'=some (aP c' oc):=by
   rw [aJ ncf,az]
  have kf:upd (upd (upd H P (.tbl (ps ++ #[rawInt pos.line,rawInt pos.col,.ref c']))) c' (aP c' oc)) h'.objs.size (aP h'.objs.size (fnMade name qual params body scope clos doc ((X.mg "__name__").getD .none) c' ctv)) h'.objs.size=some (aP h'.objs.size (fnMade name qual params body scope clos doc ((X.mg "__name__").getD .none) c' ctv)):=az
  generalize upd (upd (upd H P (.tbl (ps ++ #[rawInt pos.line,rawInt pos.col,.ref c']))) c' (aP c' oc)) h'.objs.size (aP h'.objs.size (fnMade name qual params body scope clos doc ((X.mg "__name__").getD .none) c' ctv))=H1 at *
  have old : ∀ b o,s.heap.get? b=some o→b ≠ P→(h'.push (fnMade name qual params body scope clos doc ((X.mg "__name__").getD .none) c' ctv)).get? b=some o:=fun b o e n=>Heap.get?_push_of_some _ (hx b o n e)
  have tabP:(h'.push (fnMade name qual params body scope clos doc ((X.mg "__name__").getD .none) c' ctv)).get? P=some (tabObj (ps ++ #[rawInt pos.line,rawInt pos.col,.ref c'])):=Heap.get?_push_of_some _ htb
  have hl:(ps ++ #[rawInt pos.line,rawInt pos.col,.ref c']).toList=ps.toList ++ [rawInt pos.line,rawInt pos.col,.ref c']:=by simp
  refine h h'.objs.size c' doc _ ctv oc vs t H1 _ (I.call' (ch:=[]) rfl ⟨fun b o e n hb hx'=>?_,fun b o e n hb hx'=>?_,fun b o e n hx'=>?_,fun b o e hx'=>?_,fun b xs e=>?_,fun b o u e=>?_,fun b qs e=>?_⟩ (fun b u e=>?_) I.bare fun b z=>absurd z (by simp)) nf kS ⟨_,kP,by rw [hl]; exact TriplesOk_snoc _ _ _ _ htr,.inr ⟨c',oc,vs,t,by rw [hl]; exact codeAmong_snoc _ htr hnf,kc,hd,hv⟩⟩ kf kc hd hv
  ·exact old b o e fun z=>by rw [z,hP] at n; cases n
  ·exact ⟨o.slots,old b o e fun z=>by rw [z,hP] at n; cases n⟩
  ·rw [k1 b (fun z=>by rw [z,hP] at n; cases n) (Nat.ne_of_lt (Nat.lt_of_lt_of_le (Heap.lt_size e) hge)) (Nat.ne_of_lt (Nat.lt_of_lt_of_le (Heap.lt_size e) (Nat.le_trans hge (Nat.le_of_lt hlt))))]
   exact n
  ·by_cases z:b=P
   ·exact ⟨_,by rw [z]; exact tabP⟩
   ·exact ⟨o,old b o e z⟩
  ·exact kS b _ e fun z=>by rw [z,hP] at e; cases e
  ·exact kS b _ e fun z=>by rw [z,hP] at e; cases e
  ·by_cases z:b=P
   ·rw [z,hP] at e
    cases e
    exact ⟨_,by rw [z]; exact kP⟩
   ·exact ⟨#[],by rw [kS b _ e z]; simp⟩
  ·by_cases z1:b=h'.objs.size
   ·rw [z1,kf] at e
    cases e
    rw [z1]
    exact dZ (Heap.get?_push_size _ rfl)
   by_cases z2:b=c'
   ·rw [z2,kc] at e
    cases e
    rw [z2]
    exact dZ (Heap.get?_push_of_some _ hoc)
   by_cases z3:b=P
   ·rw [z3,kP] at e
    cases e
    rw [z3]
    exact tabP
   rw [k1 b z3 z2 z1] at e
   refine (I.hok b u e).stay (fun d o hd' q=>old d o q ?_) (fun d q=>kS d _ q ?_) fun d xs q=>kS d _ q ?_
   ·rcases hd' with rfl | hd'
    ·exact z3
    ·exact fun z=>by rw [z,hP] at hd'; cases hd'
   ·exact fun z=>by rw [z,hP] at q; cases q
   ·exact fun z=>by rw [z,hP] at q; cases q
 ·refine makeFunction_hit (mg:=X.mg) hcl I.ok.glob G hcode (C.keeps I.bk) hPs htr hf hbu fun ctv doc h' tk hk hsz=>?_
  have nf:H h'.objs.size=none:=I.hok.fresh hsz
  have kS : ∀ b o,H b=some o→upd H h'.objs.size (aP h'.objs.size (fnMade name qual params body scope clos doc ((X.mg "__name__").getD .none) cd ctv)) b=some o:=fun b o e=>by
   rw [aJ (aN e nf)]
   exact e
  have old : ∀ b o,s.heap.get? b=some o→(h'.push (fnMade name qual params body scope clos doc ((X.mg "__name__").getD .none) cd ctv)).get? b=some o:=fun b o e=>Heap.get?_push_of_some _ (hk b o e)
  refine h h'.objs.size cd doc _ ctv oc vs t _ _ (I.call' (ch:=[]) rfl (Un.laid old hsz nf) (fun b u e=>?_) I.bare fun b z=>absurd z (by simp)) nf (fun b o e _=>kS b o e) ⟨ps,kS _ _ hP,htr,.inr ⟨cd,oc,vs,t,hf,kS _ _ hcd,hd,hv⟩⟩ az (kS _ _ hcd) hd hv
  by_cases z1:b=h'.objs.size
  ·rw [z1,az] at e
   cases e
   rw [z1]
   exact dZ (Heap.get?_push_size _ rfl)
  rw [aJ z1] at e
  exact (I.hok b u e).stay (fun d o _ q=>old d o q) (fun d q=>kS d _ q) fun d xs q=>kS d _ q
end
section
variable {CX:CXT} {P:Program} {w:World} {K:PySem.W.Frag} {mg:Str→Option Value} {base:Heap} {N:List Str} {qual:Str} {scope:Scope} {f c Pt:Addr} {A:Around} {outer:List Env} {s0 s:Shared} {H0 H:Hp} {E:XK} {σ:St} {Q:VK}
theorem Gn {T:o9} {cs:List Addr} {fvs:List V} {pos p1 p2:Pos} {i:Nat} (I:Inv (gj CX P w K mg base N qual scope f (.ref c) A outer s0 H0 E) [] σ H s) (bm:BMain mg base) (C:CodeHd base c Pt) (hT:TabAt H Pt pos T.qual)
  (hnd:N.Nodup) (hi:N[i]?=some T.name) (hloc:scope.names.lookup T.name=some .local) (hq:qualnameIn (envOfC qual scope s0.heap.objs.size f (.ref c)) T.name T.name=T.qual)
  (hcl:closureFor T.scope (envOfC qual scope s0.heap.objs.size f (.ref c))=pure (T.xs.zip cs)) (hd0:T.params.defaults=[]) (hk0:T.params.kw_defaults=[]) (ha:annTrees T.params none (envOfC qual scope s0.heap.objs.size f (.ref c))=[])
  (hndC:cs.Nodup) (hlen:cs.length=T.xs.length) (hlenV:fvs.length=T.xs.length)
  (hfv : ∀ (j:Nat) (a:Addr),cs[j]?=some a → ∃ (x:Str) (m:Nat) (v:V),(envOfC qual scope s0.heap.objs.size f (.ref c)).cells.lookup x=some a∧scope.names.lookup x=some .cell∧N[m]?=some x∧σ[m]?=some (some v)∧fvs[j]?=some v∧m ≠ i)
  (hQ : ∀ (fi:Addr) (H2:Hp),H fi=none→(∀ a∈cs,H a=none)→(∀ b o,H b=some o→b ≠ Pt→H2 b=some o)→TabAt H2 Pt pos T.qual→cN H2 fi T cs fvs→Q (.ref fi) H2)
  (hdb:(T.name == ("__debug__" : Str))=false:=by decide) (hcdn:(T.name == ("__classdict__" : Str))=false:=by decide) :
  wpAny (model P w) (A.deeper (envOfC qual scope s0.heap.objs.size f (.ref c))) (execs [.FunctionDef T.name T.params T.body [] none [] T.scope none T.name pos,.Return (some (.Name T.name p1)) p2] (envOfC qual scope s0.heap.objs.size f (.ref c)))
   (fun fl s' => ∃ u,fl=.ret u∧CE outer P w H0 s0 Q u s') (gj CX P w K mg base N qual scope f (.ref c) A outer s0 H0 E).xe s:=by
 refine wpAny_execs_cons (nestDef_K hd0 hk0 ha ?_)
 rw [hq]
 refine Gz (X:=gj CX P w K mg base N qual scope f (.ref c) A outer s0 H0 E) (n:=pos.line) I bm rfl C hT hcl fun fi cd doc pm ctv oc vs t H1 s1 I1 nfi keep hT1 hf1 hc1 hd hv=>?_
 refine uo (X:=gj CX P w K mg base N qual scope f (.ref c) A outer s0 H0 E) (v:=.ref fi) I1 hnd hi (.inl hloc) rfl (fun s2 I2=>?_) (.inr hloc)
 have hiσ:i < σ.length:=by rw [I.len]; exact (List.getElem?_eq_some_iff.mp hi).1
 refine wpAny_execs_cons (wpAny_Return_some (thn (wI (X:=gj CX P w K mg base N qual scope f (.ref c) A outer s0 H0 E) hi (.inl hloc) hdb hcdn [] s2 _ H1 (fun v H'=>v=.ref fi∧H'=H1) I2 ⟨_,List.getElem?_set_self hiσ,rfl,rfl⟩) fun u s3 hu=>?_))
 obtain ⟨v,H',J,rv,rfl,rfl⟩:=hu
 refine ⟨u,rfl,.ref fi,fun b=>if b∈cs then (s3.heap.get? b).map (aP b) else H' b,J.os,J.bare,?_,?_,rv,?_⟩
 all_goals
  have cellsOf : ∀ a∈cs,∃ x,(envOfC qual scope s0.heap.objs.size f (.ref c)).cells.lookup x=some a:=fun a ha'=>by
   obtain ⟨j,hj⟩:=List.getElem?_of_mem ha'
   obtain ⟨x,m,v,h1,_⟩:=hfv j a hj
   exact ⟨x,h1⟩
  have fresh : ∀ a∈cs,s0.heap.objs.size≤a:=fun a ha'=>by
   obtain ⟨x,hx⟩:=cellsOf a ha'
   exact J.ok.cab x a rfl hx
  have gone : ∀ a∈cs,H' a=none:=fun a ha'=>by
   obtain ⟨x,hx⟩:=cellsOf a ha'
   exact J.freeC x a hx
  have out : ∀ b o,H' b=some o→b ∉ cs:=fun b o e z=>by
   rw [gone b z] at e
   cases e
 ·have U:Un (frs outer) [] H0 H' s0.heap s3.heap:=J.base
  refine ⟨U.keep,U.slot,fun b o e n hx'=>?_,U.there,fun b xs e=>?_,fun b o v e=>?_,fun b ps e=>?_⟩
  ·show (if b∈cs then _ else H' b)=none
   rw [if_neg (fun z=>absurd (Nat.lt_of_lt_of_le (Heap.lt_size e) (fresh b z)) (Nat.lt_irrefl _))]
   exact U.free b o e n hx'
  ·have e1:=U.tups b xs e
   show (if b∈cs then _ else H' b)=_
   rw [if_neg (out b _ e1)]
   exact e1
  ·have e1:=U.frzs b o v e
   show (if b∈cs then _ else H' b)=_
   rw [if_neg (out b _ e1)]
   exact e1
  ·obtain ⟨more,e1⟩:=U.tbls b ps e
   refine ⟨more,?_⟩
   show (if b∈cs then _ else H' b)=_
   rw [if_neg (out b _ e1)]
   exact e1
 ·intro b u' e
  have e:(if b∈cs then (s3.heap.get? b).map (aP b) else H' b)=some u':=e
  by_cases hb:b∈cs
  ·rw [if_pos hb] at e
   cases q:s3.heap.get? b with
   | none=>rw [q] at e; cases e
   | some o =>
    rw [q] at e
    cases e
    exact dZ q
  ·rw [if_neg hb] at e
   refine (J.hok b u' e).stay (fun _ _ _ q=>q) (fun d q=>?_) fun d xs q=>?_
   ·show (if d∈cs then _ else H' d)=_
    rw [if_neg (out d _ q)]
    exact q
   ·show (if d∈cs then _ else H' d)=_
    rw [if_neg (out d _ q)]
    exact q
 ·have kp : ∀ b o,H' b=some o→(fun b=>if b∈cs then (s3.heap.get? b).map (aP b) else H' b) b=some o:=fun b o e=>by
   show (if b∈cs then _ else H' b)=_
   rw [if_neg (out b _ e)]
   exact e
  refine hQ fi _ nfi (fun a ha'=>?_) (fun b o e n=>kp b o (keep b o e n)) ?_ ⟨⟨cd,doc,pm,ctv,oc,vs,t,kp _ _ hf1,kp _ _ hc1,hd,hv⟩,fun j a hj=>?_,hndC,hlen,hlenV⟩
  ·obtain ⟨x,hx⟩:=cellsOf a ha'
   exact I.freeC x a hx
  ·obtain ⟨ps,e1,e2,e3⟩:=hT1
   refine ⟨ps,kp _ _ e1,e2,?_⟩
   rcases e3 with e3 | ⟨cd',oc',vs',t',e4,e5,e6⟩
   ·exact .inl e3
   ·exact .inr ⟨cd',oc',vs',t',e4,kp _ _ e5,e6⟩
  ·obtain ⟨x,m,v,h1,h2,h3,h4,h5,h6⟩:=hfv j a hj
   obtain ⟨mm,_,hl⟩:=J.loc
   obtain ⟨u',r',l⟩:=hl m x v h3 (by rw [List.getElem?_set_ne (Ne.symm h6)]; exact h4) (.inr (.inl h2))
   have l' : ∃ c',(envOfC qual scope s0.heap.objs.size f (.ref c)).cells.lookup x=some c'∧s3.heap.IsCell c' (some u'):=by
    rcases l with ⟨l1,_⟩ | ⟨_,l2⟩
    ·have l1:scope.names.lookup x=some .local:=l1
     rw [h2] at l1
     cases l1
    ·exact l2
   obtain ⟨c',l1,co,l2,l3⟩:=l'
   rw [h1] at l1
   cases l1
   refine ⟨co,v,u',h5,?_,l3,r'⟩
   show (if a∈cs then (s3.heap.get? a).map (aP a) else H' a)=_
   rw [if_pos (List.mem_of_getElem? hj),l2]
   rfl
theorem z8 {k:Nat} {name:Str} {params:Arguments} {body:List Stmt} {dV kV doc pm cdv ct oc:Value} {an od:Option Addr} {osl:Array (Option Value)} {ps:List Str} {sp:Sp} (lk:K.lookup f=some ⟨oc,od,.func (PySem.W.fnOf name qual params body scope dV kV doc pm an cdv ct),osl⟩) (hcd:PySem.W.codeIn K cdv qual=true) (S:aC N ps scope)
  (len : ∀ vs H Q E,sp vs H Q E→vs.length=ps.length)
  (hbody : ∀ (A:Around) (outer:List Env) (s:Shared) (H:Hp) (vs:List V) (Q:VK) (E:XK) (s1:Shared),dN k (A.deeper (envOfC qual scope s.heap.objs.size f cdv))→sp vs H Q E→Inv (gj CX0 P w K mg base N qual scope f cdv A outer s H E) [] (start N vs) H s1 →
   wpAny (model P w) (A.deeper (envOfC qual scope s.heap.objs.size f cdv)) (execs body (envOfC qual scope s.heap.objs.size f cdv)) (fun fl s' => ∃ u,fl=.ret u∧CE outer P w H s Q u s') (gj CX0 P w K mg base N qual scope f cdv A outer s H E).xe s1) :
  aX P w K mg base CX0 (k + 1) f (PySem.W.fnOf name qual params body scope dV kV doc pm an cdv ct) ps sp:=by
 refine ⟨len,fun A outer s H args us vs Q E hr e0 hb r hsp=>?_⟩
 have hl:=len _ _ _ _ hsp
 have KX:K.In s.heap:=e0.mod.kin.keeps fun b o e=>(e0.bs b o e).1
 have lim:s.heap.NoLimit:=e0.mod.nolimit.keeps fun b o e=>(e0.bs b o e).1
 have hkind : ∀ y∈ps.zip us,scope.names.lookup y.1=some .local∨(scope.names.lookup y.1=some .cell∧((cellsFrom (s.heap.objs.size + 1) scope.names []).lookup y.1).isSome=true):=fun ⟨n,v⟩ hy=>by
  rcases S.par n (List.of_mem_zip hy).1 with q | q
  ·exact .inl q
  ·exact .inr ⟨q,PySem.W.cellsFrom_some _ _ _ (.inl q)⟩
 refine codeAny_call_function hr.depth (KX _ _ lk) rfl S.co S.gen rfl (PySem.W.codeRec_of KX hcd) (hb _ _ _ _ ?_)
 refine wpAny_newFunctionEnv_cells S.kind hkind fun env he s1 x=>?_
 subst he
 refine ⟨lim.keeps x.toInCall.keep,codeAny_func ?_⟩
 have I:Inv (gj CX0 P w K mg base N qual scope f cdv A outer s H E) [] (start N vs) H s1:=uW S hr.hd e0 hl r x
 refine wpAny_mono (hbody A outer s H vs Q E s1 (hr.deeper _) hsp I) (fun fl s' hs=>?_) fun e s' hs=>hs
 obtain ⟨u,rfl,q⟩:=hs
 exact q
end
end L2
set_option Elab.async false
set_option linter.all false
set_option maxRecDepth 100000
set_option maxHeartbeats 4000000
namespace L2
open PySem PySem.Spec PyProof.Rows PySem.W
theorem DY {P:Program} {w:World} {K:PySem.W.Frag} {mg mb:Str→Option Value} {k:Nat} {fa a:Addr} {fd:FuncData} {x:Str} {sp:Sp} {s₁:Shared} {vs:List Value} {ns:List Int} {tabs:List (Addr × Addr)}
  (KX:K.In s₁.heap) (hns:s₁.heap.Ns mainGlobals mg) (hb:s₁.heap.Ns builtinsNs mb) (hbb : ∀ x:Str,x ≠ "__name__" → mb x=bootBuiltins x) (hlim:s₁.heap.NoLimit) (hbm:BMain mg s₁.heap) (hT:TabsAt tabs s₁.heap) (hNT:noTabs K=true) (hg:s₁.gens = #[])
  (ha:s₁.heap.get? a=some { cls:=.type "list", data:=.seq vs.toArray }) (hi:IntsAre vs ns) (hl:ns.length≤sizeLine) (hr:dN k callerA)
  (F : ∀ base:Heap,K.In base→base.Ns mainGlobals mg→BMain mg base→(∀ q∈tabs,CodeHd base q.1 q.2)→aX P w K mg base CX0 k fa fd [x] sp) (hbind : ∀ (s:Shared) (u:Value),BindsTo s fd ⟨[u],[]⟩ [(x,u)])
  (hsp : ∀ H:Hp,SqL K H a (ns.map V.int)→(∀ q∈tabs,H q.2=some (.tbl #[]))→sp [.ref a] H (fun v _=>v=.bl true) fun _ _ _=>False) :
  codeAny (model P w) callerA (.call (.ref fa) ⟨[.ref a],[]⟩) (fun r s'=>r=.ok (.ret (.bool true))∧OldK s₁.heap s'.heap∧s'.os=s₁.os∧AllBare s'.gens) s₁:=by
 have rv:=u0 hi
 have lenV:=hi.length
 have tabNoK : ∀ b,b∈tabs.map (·.2)→K.lookup b=none:=fun b hb'=>by
  cases q:K.lookup b with
  | none=>rfl
  | some o =>
   obtain ⟨r,hr',rfl⟩:=List.mem_map.mp hb'
   have e:=KX _ _ q
   rw [(hT r hr').2] at e
   cases e
   have h2:=List.all_eq_true.mp hNT _ (mem_of_lookupK q)
   exact absurd (show false=true from h2) Bool.false_ne_true
 have aNoT:a ∉ tabs.map (·.2):=fun z=>by
  obtain ⟨r,hr',e⟩:=List.mem_map.mp z
  have e2:=(hT r hr').2
  rw [e,ha] at e2
  cases e2
 have core : ∀ H:Hp,(∀ b,H b=none∨(b=a∧K.lookup a=none∧H b=some (.frz { cls:=.type "list", data:=.seq vs.toArray } (.lst (ns.map V.int))))∨(b∈tabs.map (·.2)∧H b=some (.tbl #[])))→(∀ q∈tabs,H q.2=some (.tbl #[]))→SqL K H a (ns.map V.int)→HOk P w H s₁.heap →
   codeAny (model P w) callerA (.call (.ref fa) ⟨[.ref a],[]⟩) (fun r s'=>r=.ok (.ret (.bool true))∧OldK s₁.heap s'.heap∧s'.os=s₁.os∧AllBare s'.gens) s₁:=by
  intro H hO hTb hS hok
  have base_of : ∀ {b:Addr} {o:Obj},s₁.heap.get? b=some o→H b=none→(sI s₁.heap H).get? b=some o:=fun e n=>FW e n
  have noA : ∀ {b:Addr} {o:Obj},s₁.heap.get? b=some o→o.cls ≠ .type "list" → o.cls ≠ .none→H b=none:=fun {b o} e d1 d2=>by
   rcases hO b with z | ⟨rfl,_,z⟩ | ⟨z,_⟩
   ·exact z
   ·rw [ha] at e
    cases e
    exact absurd rfl d1
   ·obtain ⟨r,hr',rfl⟩:=List.mem_map.mp z
    rw [(hT r hr').2] at e
    cases e
    exact absurd rfl d2
  have noD : ∀ {b:Addr} {o:Obj} {es:Array DictEntry} {ep:Nat},s₁.heap.get? b=some o→o.data=.dict es ep→H b=none:=fun {b o es ep} e d=>by
   rcases hO b with z | ⟨rfl,_,z⟩ | ⟨z,_⟩
   ·exact z
   ·rw [ha] at e; cases e
    have d':Data.seq vs.toArray _=Data.dict es ep:=d
    cases d'
   ·obtain ⟨r,hr',rfl⟩:=List.mem_map.mp z
    rw [(hT r hr').2] at e
    cases e
    have d':Data.fields _=Data.dict es ep:=d
    cases d'
  have nsK : ∀ {b:Addr} {m:Str→Option Value},s₁.heap.Ns b m→(sI s₁.heap H).Ns b m:=fun {b m} ⟨o,es,ep,e,d,r⟩=>⟨o,es,ep,base_of e (noD e d),d,r⟩
  have hKb:K.In (sI s₁.heap H):=fun b o e=>base_of (KX b o e) (by
   rcases hO b with z | ⟨rfl,z,_⟩ | ⟨z,_⟩
   ·exact z
   ·rw [e] at z; cases z
   ·rw [tabNoK b z] at e; cases e)
  have hM:Mod K mg (sI s₁.heap H):=⟨hKb,nsK hns,⟨mb,nsK hb,hbb⟩,let ⟨mc,h1,h2⟩:=hlim; ⟨mc,nsK h1,h2⟩⟩
  have hB:BMain mg (sI s₁.heap H):=by
   obtain ⟨bm,ob,b1,b2,b3,b4,b5⟩:=hbm
   exact ⟨bm,ob,b1,b2,base_of b3 (noA b3 (by rw [b4]; decide) (by rw [b4]; nofun)),b4,b5⟩
  have hC : ∀ q∈tabs,CodeHd (sI s₁.heap H) q.1 q.2:=fun q hq=>by
   obtain ⟨o,ws,file,tf,flags,tg,inF,text,tt,e1,r1,r2⟩:=(hT q hq).1
   exact ⟨o,ws,file,tf,flags,tg,inF,text,tt,base_of e1 (noA e1 (by rw [r1]; decide) (by rw [r1]; nofun)),r1,r2⟩
  have e0:Bf P w K mg (sI s₁.heap H) callerA [] s₁ H:=⟨rfl,hM,fun b o e=>GK e,Nat.le_of_eq (Dd _ _),trivial,fun b hb=>absurd (show b∈([]:List Addr) from hb) (by simp),hok,.of_eq hg⟩
  refine codeAny_mono ((F _ hKb (nsK hns) hB hC).run callerA [] s₁ H ⟨[.ref a],[]⟩ [.ref a] [.ref a] _ _ hr e0 (hbind s₁ (.ref a)) (.cons rfl .nil) (hsp H hS hTb)) fun r s' h=>?_
  cases r with
  | error e=>exact False.elim h
  | ok fl =>
   cases fl with
   | next=>exact False.elim h
   | brk=>exact False.elim h
   | cont=>exact False.elim h
   | ret u =>
    obtain ⟨v,H',os,bare,un,hok',r',q⟩:=h
    have q':v=.bl true:=q
    subst q'
    obtain rfl:u=Value.bool true:=r'
    refine ⟨rfl,⟨fun b o e=>?_,fun b o e=>un.there b o e (by simp)⟩,os,bare⟩
    rcases hO b with z | ⟨rfl,_,z⟩ | ⟨z1,z⟩
    ·exact .inl (un.keep b o e z (by intro z; exact absurd (show b∈([]:List Addr) from z) (by simp)) (by simp))
    ·have z2:=un.frzs b _ _ z
     obtain ⟨e1,_⟩:=hok b _ z
     obtain ⟨e2,_⟩:=hok' b _ z2
     rw [e] at e1; cases e1
     exact .inl e2
    ·obtain ⟨more,z2⟩:=un.tbls b _ z
     have e1:s'.heap.get? b=some { cls:=.none,data:=.fields (#[] ++ more) }:=hok' b _ z2
     obtain ⟨r,hr',rfl⟩:=List.mem_map.mp z1
     have e2:=(hT r hr').2
     rw [e] at e2
     cases e2
     exact .inr (.inl ⟨((hT r hr').1.tab (hT r hr').2).isCodeTable,rfl,#[],more,rfl,e1⟩)
 cases hk:K.lookup a with
 | some o =>
  have e:=KX a o hk
  rw [ha] at e
  cases e
  refine core (fun b=>if b∈tabs.map (·.2) then some (.tbl #[]) else none) (fun b=>?_) (fun q hq=>if_pos (List.mem_map_of_mem hq)) (.inr ⟨_,vs.toArray,_,hk,rfl,rfl,rfl,by rw [List.size_toArray,lenV]; exact hl,by simpa using rv⟩) (fun b u z=>?_)
  ·by_cases hb':b∈tabs.map (·.2)
   ·exact .inr (.inr ⟨hb',if_pos hb'⟩)
   ·exact .inl (if_neg hb')
  ·by_cases hb':b∈tabs.map (·.2)
   ·have z':=(if_pos hb').symm.trans z
    cases z'
    obtain ⟨r,hr',rfl⟩:=List.mem_map.mp hb'
    exact (hT r hr').2
   ·have z':=(if_neg hb').symm.trans z
    cases z'
 | none =>
  have hA:(fun b=>if b=a then some (.frz { cls:=.type "list", data:=.seq vs.toArray } (.lst (ns.map V.int))) else if b∈tabs.map (·.2) then some (.tbl #[]) else none:Hp) a=some (.frz { cls:=.type "list", data:=.seq vs.toArray } (.lst (ns.map V.int))):=if_pos rfl
  have hTt : ∀ b∈tabs.map (·.2),(fun b=>if b=a then some (.frz { cls:=.type "list", data:=.seq vs.toArray } (.lst (ns.map V.int))) else if b∈tabs.map (·.2) then some (.tbl #[]) else none:Hp) b=some (.tbl #[]):=fun b hb'=>by
   have hne:b ≠ a:=fun e=>aNoT (e ▸ hb')
   show (if b=a then _ else if b∈tabs.map (·.2) then _ else _)=_
   rw [if_neg hne,if_pos hb']
  have hN : ∀ b,b ≠ a→b ∉ tabs.map (·.2)→(fun b=>if b=a then some (.frz { cls:=.type "list", data:=.seq vs.toArray } (.lst (ns.map V.int))) else if b∈tabs.map (·.2) then some (.tbl #[]) else none:Hp) b=none:=fun b h1 h2=>by
   show (if b=a then _ else if b∈tabs.map (·.2) then _ else _)=_
   rw [if_neg h1,if_neg h2]
  generalize (fun b=>if b=a then some (.frz { cls:=.type "list", data:=.seq vs.toArray } (.lst (ns.map V.int))) else if b∈tabs.map (·.2) then some (.tbl #[]) else none:Hp)=H at *
  refine core H (fun b=>?_) (fun q hq=>hTt _ (List.mem_map_of_mem hq)) (.inl (.inr ⟨{ cls:=.type "list", data:=.seq vs.toArray },hA⟩)) (fun b u z=>?_)
  ·by_cases h1:b=a
   ·rw [h1]
    exact .inr (.inl ⟨rfl,hk,hA⟩)
   ·by_cases h2:b∈tabs.map (·.2)
    ·exact .inr (.inr ⟨h2,hTt b h2⟩)
    ·exact .inl (hN b h1 h2)
  ·by_cases h1:b=a
   ·rw [h1,hA] at z
    cases z
    rw [h1]
    exact ⟨ha,by rw [List.length_map]; exact hl,vs,_,rv,ha⟩
   ·by_cases h2:b∈tabs.map (·.2)
    ·rw [hTt b h2] at z
     cases z
     obtain ⟨r,hr',rfl⟩:=List.mem_map.mp h2
     exact (hT r hr').2
    ·rw [hN b h1 h2] at z
     cases z
theorem FP {l:PySem.W.OpenLaw} {n k:Nat} {q:Program} {loose:List Str} {XP:(Str→Option Value)→Heap→Prop} {YP:World→Heap→Prop} {d:DefRec} {K:Params→PySem.W.Frag} {x:Str}
  (hn:l.most=some n) (hn2:n≤sizeLine) (hdf:d.params.defaults=[]) (hr:dN k callerA)
  (hY : ∀ (w:World) (h:Heap),YP w h→(K w.params).In h)
  (F : ∀ (w:World) (mg mb:Str→Option Value) (mean:ExcName→Option Value) (fa:Addr) (h:Heap),(K w.params).In h→Top q (looseW q loose) mean mg mb h→mg d.name=some (.ref fa) →
   ∃ (fd:FuncData) (tabs:List (Addr × Addr)) (sp:Sp),(∀ (s:Shared) (u:Value),BindsTo s fd ⟨[u],[]⟩ [(x,u)])∧TabsAt tabs h∧noTabs (K w.params)=true ∧
    (∀ base:Heap,(K w.params).In base→base.Ns mainGlobals mg→BMain mg base→(∀ q∈tabs,CodeHd base q.1 q.2)→aX l.prog w (K w.params) mg base CX0 k fa fd [x] sp) ∧
    ∀ (H:Hp) (a:Addr) (ns:List Int),ns.length≤n→SqL (K w.params) H a (ns.map V.int)→(∀ q∈tabs,H q.2=some (.tbl #[]))→sp [.ref a] H (fun v _=>v=.bl true) fun _ _ _=>False) :
  PySem.W.WalkO q loose XP YP l.row.toRowW d [] (fun f vs=>PySem.call f vs):=by
 refine Att.attach_call hn hdf fun w s₀ s₁ mg mb fa o pm cd doc a vs ns G Y ho hd hcd hmg hobj hints hlen hg=>?_
 have KX:=hY w _ Y
 obtain ⟨fd,tabs,sp,hb,hT,hNT,hF,hsp⟩:=F w mg mb _ fa _ KX G.T hmg
 exact DY KX G.T.g G.T.b G.T.builtins G.T.nolimit G.T.bmain hT hNT hg hobj hints (Nat.le_trans hlen hn2) hr hF hb fun H hS hTb=>hsp H a ns hlen hS hTb
end L2
set_option Elab.async false
set_option linter.all false
set_option maxRecDepth 100000
set_option maxHeartbeats 4000000
namespace L2
open PySem PySem.Spec PyProof.Rows PySem.W
def Hl (st:Stmt) (qual:Str) (ps xs:List Str):o9:=match st with
 | .FunctionDef n a b _ _ _ sc _ _ _=>⟨n,qual,a,b,sc,ps,xs⟩
 | _=>⟨"", qual,defArgs st,[],defScope st,ps,xs⟩
def jT:Stmt→Pos
 | .FunctionDef _ _ _ _ _ _ _ _ _ p=>p
 | _=>⟨0,0,0,0⟩
structure Ey (N:List Str) (qual:Str) (scope:Scope) (T:o9) (i:Nat) (slots:List Nat) (csF:Addr→List Addr):Prop where
 nd:N.Nodup
 hi:N[i]?=some T.name
 loc:scope.names.lookup T.name=some .local
 qn : ∀ (L f:Addr) (c:Value),qualnameIn (envOfC qual scope L f c) T.name T.name=T.qual
 cl : ∀ (L f:Addr) (c:Value),closureFor T.scope (envOfC qual scope L f c)=pure (T.xs.zip (csF L))
 d0:T.params.defaults=[]
 k0:T.params.kw_defaults=[]
 an : ∀ (L f:Addr) (c:Value),annTrees T.params none (envOfC qual scope L f c)=[]
 ndC : ∀ L:Addr,(csF L).Nodup
 len : ∀ L:Addr,(csF L).length=T.xs.length
 fv : ∀ (L f:Addr) (c:Value) (j:Nat) (a:Addr),(csF L)[j]?=some a → ∃ (x:Str) (m:Nat),(envOfC qual scope L f c).cells.lookup x=some a∧scope.names.lookup x=some .cell∧N[m]?=some x∧slots[j]?=some m∧m ≠ i
 db:(T.name == ("__debug__" : Str))=false
 dn:(T.name == ("__classdict__" : Str))=false
def Made (H:Hp) (Pt:Addr) (pos:Pos) (T:o9) (slots:List Nat) (σ:St) (Q:VK):Prop :=
 TabAt H Pt pos T.qual ∧ ∃ fvs:List V,(∀ j m:Nat,slots[j]?=some m → ∃ v,σ[m]?=some (some v)∧fvs[j]?=some v)∧fvs.length=T.xs.length ∧
  ∀ (fi:Addr) (cs:List Addr) (H2:Hp),H fi=none→(∀ a∈cs,H a=none)→(∀ b o,H b=some o→b ≠ Pt→H2 b=some o)→TabAt H2 Pt pos T.qual→cN H2 fi T cs fvs→Q (.ref fi) H2
section
variable {P:Program} {w:World} {K:PySem.W.Frag} {mg:Str→Option Value} {base:Heap} {x qual:Str} {st:Stmt} {f c Pt:Addr} {fd:FuncData} {N ps:List Str} {k i:Nat} {sp:Sp} {T:o9} {slots:List Nat} {csF:Addr→List Addr} {pos p1 p2:Pos}
theorem yc {A:Around} {outer:List Env} {s s1:Shared} {H H1:Hp} {Q:VK} {E:XK} {σ:St} (M:Ey N qual (defScope st) T i slots csF) (bm:BMain mg base) (C:CodeHd base c Pt) (I:Inv (gj CX0 P w K mg base N qual (defScope st) f (.ref c) A outer s H E) [] σ H1 s1) (h:Made H1 Pt pos T slots σ Q) :
  wpAny (model P w) (A.deeper (envOfC qual (defScope st) s.heap.objs.size f (.ref c))) (execs [.FunctionDef T.name T.params T.body [] none [] T.scope none T.name pos,.Return (some (.Name T.name p1)) p2] (envOfC qual (defScope st) s.heap.objs.size f (.ref c)))
   (fun fl s' => ∃ u,fl=.ret u∧CE outer P w H s Q u s') (gj CX0 P w K mg base N qual (defScope st) f (.ref c) A outer s H E).xe s1:=by
 obtain ⟨hT,fvs,h1,h2,h3⟩:=h
 refine Gn (cs:=csF s.heap.objs.size) (fvs:=fvs) I bm C hT M.nd M.hi M.loc (M.qn _ _ _) (M.cl _ _ _) M.d0 M.k0 (M.an _ _ _) (M.ndC _) (M.len _) h2 (fun j a e=>?_) (fun fi H2 n1 n2 n3 n4 n5=>h3 fi _ H2 n1 n2 n3 n4 n5) M.db M.dn
 obtain ⟨y,m,e1,e2,e3,e4,e5⟩:=M.fv s.heap.objs.size f (.ref c) j a e
 obtain ⟨v,e6,e7⟩:=h1 j m e4
 exact ⟨y,m,v,e1,e2,e3,e6,e7,e5⟩
theorem Fun.maker0 (F:Fun K x qual st f fd) (S:aC N ps (defScope st)) (M:Ey N qual (defScope st) T i slots csF) (bm:BMain mg base) (hcode:fd.code=.ref c) (C:CodeHd base c Pt) (len : ∀ vs H Q E,sp vs H Q E→vs.length=ps.length)
  (hb:defBody st=[.FunctionDef T.name T.params T.body [] none [] T.scope none T.name pos,.Return (some (.Name T.name p1)) p2])
  (h : ∀ (vs:List V) (H:Hp) (Q:VK) (E:XK),sp vs H Q E→Made H Pt pos T slots (start N vs) Q):aX P w K mg base CX0 (k + 1) f fd ps sp:=by
 obtain ⟨oc,od,kV,doc,pm,an,cdv,ct,osl,rfl,lk,hcd⟩:=F.ex
 obtain rfl:cdv=.ref c:=hcode
 refine z8 lk hcd S len fun A outer s H vs Q E s1 hr hsp I=>?_
 rw [hb]
 exact yc M bm C I (h vs H Q E hsp)
theorem Fun.maker1 {st0:Stmt} (F:Fun K x qual st f fd) (S:aC N ps (defScope st)) (M:Ey N qual (defScope st) T i slots csF) (bm:BMain mg base) (hcode:fd.code=.ref c) (C:CodeHd base c Pt) (len : ∀ vs H Q E,sp vs H Q E→vs.length=ps.length)
  (hb:defBody st=[st0,.FunctionDef T.name T.params T.body [] none [] T.scope none T.name pos,.Return (some (.Name T.name p1)) p2])
  (h : ∀ (cdv:Value) (A:Around) (outer:List Env) (s:Shared) (H:Hp) (vs:List V) (Q:VK) (E:XK),dN k (A.deeper (envOfC qual (defScope st) s.heap.objs.size f cdv))→sp vs H Q E →
   ∃ t,PS (gj CX0 P w K mg base N qual (defScope st) f cdv A outer s H E).nox st0 t∧t { nx:=fun σ H'=>Made H' Pt pos T slots σ Q,rt:=fun _ _=>False } (start N vs) H):aX P w K mg base CX0 (k + 1) f fd ps sp:=by
 obtain ⟨oc,od,kV,doc,pm,an,cdv,ct,osl,rfl,lk,hcd⟩:=F.ex
 obtain rfl:cdv=.ref c:=hcode
 refine z8 lk hcd S len fun A outer s H vs Q E s1 hr hsp I=>?_
 rw [hb]
 obtain ⟨t,h1,h2⟩:=h _ A outer s H vs Q E hr hsp
 refine wpAny_execs_cons (wpAny_mono (h1 [] s1 (start N vs) H _ (I.wish _) h2) (fun fl s2 q=>?_) fun _ _ z=>False.elim z)
 cases fl with
 | next =>
  obtain ⟨σ,H1,I1,q⟩:=q
  exact yc M bm C I1.unwish q
 | ret u=>obtain ⟨_,_,_,_,_,z⟩:=q; exact False.elim z
 | brk=>obtain ⟨_,_,_,z⟩:=q; exact False.elim z
 | cont=>obtain ⟨_,_,_,z⟩:=q; exact False.elim z
theorem Em {sp:Addr→Sp} (S:nW N T) (hb : ∀ (cl:List (Str × Addr)) (doc pm cd ctv:Value) (us:List Value),us.length=T.ps.length→bindArgs (fnX T.name T.qual T.params T.body T.scope cl .none .none doc pm none cd ctv) ⟨us,[]⟩=pure (T.ps.zip us))
  (h : ∀ (f:Addr) (vs:List V) (H:Hp) (Q:VK),sp f vs H Q E0→vs.length=T.ps.length ∧ ∃ cs fvs,cN H f T cs fvs ∧
   ∀ (cd:Addr) (A:Around) (outer:List Env) (s:Shared),dN k (A.deeper (envX T.qual T.scope s.heap.objs.size f (.ref cd) (T.xs.zip cs))) → ∃ t,PSs (qp P w K mg base N T.qual T.scope f (.ref cd) (T.xs.zip cs) A outer s (hide H cs)) T.body t∧t { nx:=fun _ H'=>Q .non (over H cs H'),rt:=fun v H'=>Q v (over H cs H') } (start N (vs ++ fvs)) (hide H cs)) :
  nA P w K mg base (k + 1) sp:=by
 intro f A outer s H us vs Q hr e0 r hsp
 obtain ⟨hl,cs,fvs,ca,hbody⟩:=h f vs H Q hsp
 exact GZ S hr e0 ca (fun cl doc pm cd ctv=>.of_eq (hb cl doc pm cd ctv us (by rw [← r.length]; exact hl))) r hl fun cd hr'=>hbody cd A outer s hr'
end
theorem tab0 {H:Hp} {P:Addr} {pos:Pos} {qual:Str} (h:H P=some (.tbl #[])):TabAt H P pos qual:=⟨#[],h,trivial,.inl rfl⟩
theorem tu {K:PySem.W.Frag} {x:Str} {f c P:Addr} {oc to:Value} {od td:Option Addr} {fd:FuncData} {osl tsl:Array (Option Value)} {vs:Array Value} (a:nsIn K mainGlobals x=some (some (.ref f))) (l:K.lookup f=some ⟨oc,od,.func fd,osl⟩) (hc:fd.code=.ref c)
  (t:K.lookup c=some ⟨to,td,.fields vs,tsl⟩) (p:vs[11]?=some (.ref P)):tabIn K x=some (c,P):=by
 unfold tabIn
 simp only [a,l,hc,t,p]
end L2
set_option Elab.async false
set_option linter.all false
set_option maxRecDepth 100000
set_option maxHeartbeats 4000000
namespace PySem
open PyProof.Rows
namespace F
theorem lri_no_len:typeLookup (.type "list_reverseiterator") "__len__" = pure none:=by rw [typeLookup_type,builtinLookup_eq_fast]; kernel_rfl
theorem lri_hint:typeLookup (.type "list_reverseiterator") "__length_hint__" = pure (some (.builtin "list_reverseiterator.__length_hint__")):=by rw [typeLookup_type,builtinLookup_eq_fast]; kernel_rfl
end F
section
variable {prog:Program} {w:World} {A:Around} {E:Value→Shared→Prop} {s:Shared}
theorem rO {it l:Addr} {i:Int} {Q:Bool→Shared→Prop} (hit:s.heap.IsRevIter it l i) (h:Q false s):wpAny (model prog w) A (Builtin.List.listLengthHint (.ref it)) Q E s:=by
 unfold Builtin.List.listLengthHint
 refine wpAny_bind (wpAny_specialOf hit.typeIs F.lri_no_len ?_)
 show wpAny _ A (specialOf (Value.ref it) (Str.ofString "__length_hint__") >>= _) _ _ _
 refine wpAny_bind (wpAny_specialOf hit.typeIs F.lri_hint ?_)
 generalize hid:("list_reverseiterator.__length_hint__" : String)=id0
 wp_delta
 rw [show splitId id0=some ("list_reverseiterator", "__length_hint__") from by subst hid; decide +kernel]
 subst hid
 refine wpAny_bind (wpAny_isInstance (T := "list_reverseiterator") (b:=true) hit.typeIs (by rw [isSubtype_type]; kernel_rfl) ?_)
 refine wpAny_ite_split (fun hab=>absurd hab (by decide)) (fun _=>?_)
 refine wpAny_ite_split (fun _=>?_) (fun hab=>absurd (by decide +kernel) hab)
 refine wpAny_ite_split (fun hab=>absurd hab (by decide +kernel)) (fun _=>?_)
 exact wpAny_pure h
end
section
variable {prog:Program} {w:World} {A:Around} {s:Shared} {R:Result→Shared→Prop}
theorem p6 {it l:Addr} {items:Array Value} (hh:A.handled=none) (hne:l ≠ it) (S:Addr) (res:Value) (c₀:Nat) (hit:s.heap.IsRevIter it l ((items.size:Int) - 1)) (hl:s.heap.IsList l items) (hSi:S ≠ it) (hSl:S ≠ l)
  (hS:s.heap.get? S=some { cls:=.type "list", data:=.seq #[] c₀ })
  (hR : ∀ h' tk acc' c',(∀ b o,b ≠ S→b ≠ it→s.heap.get? b=some o→h'.get? b=some o)→h'.get? S=some { cls:=.type "list", dict:=none,data:=.seq acc' c',slots := #[] } →
   ItemsOf (fun i v=>items[items.size - 1 - i]?=some v) acc' items.size→R (.ok (.ret res)) { s with heap:=h',toks:=tk }) (hn:items.size≤sizeLine) :
  wpAny (model prog w) A.in1 (Builtin.List.listExtendWith (.ref S) (.ref it) res)
   (fun fin s'=>match fin with | .done f=>R (.ok f) s' | .again c'=>c'.quiet=true∧codeAny (model prog w) A c' R s') (fun e s'=>R (.error e) s') s:=by
 have hSf:S ∉ [it,l]:=fun hm=>by
  rcases List.mem_cons.mp hm with e | hm
  ·exact hSi e
  ·exact hSl (List.mem_singleton.mp hm)
 have W:=(Walks.listRev (prog:=prog) (w:=w) (A:=A.in1) hh it l hne items).toS
 have key : ∀ (h:Heap) (c₁ tk:Nat),h.IsRevIter it l ((items.size:Int) - 1)→h.IsList l items→(∀ b o,b ≠ S→s.heap.get? b=some o→h.get? b=some o) →
   h.get? S=some { cls:=.type "list", data:=.seq #[] c₁ }→codeAny (model prog w) A (.builtin "list.extend.loop" ⟨[.ref S,.ref it,res],[]⟩) R { s with heap:=h,toks:=tk }:=by
  intro h c₁ tk hit₁ hl₁ hk hS₁
  refine codeAny_extend_loopS W hn S hSf res items.size 0 _ #[] c₁ rfl (Nat.zero_le _) ⟨Nat.zero_le _,?_,hl₁⟩ hS₁ (ItemsOf.nil _) fun s' acc' c' hm hS' hacc=>?_
  ·have e:(items.size:Int) - 1 - ((0:Nat):Int)=(items.size:Int) - 1:=by omega
   rw [e]
   exact hit₁
  rw [Moved.eq_with hm]
  refine hR s'.heap s'.toks acc' c' (fun b o hb hb2 e=>hm.heap b o (fun hmem=>?_) (hk b o hb e)) hS' hacc
  rcases List.mem_cons.mp hmem with e' | hmem
  ·exact hb e'
  ·exact hb2 (List.mem_singleton.mp hmem)
 unfold Builtin.List.listExtendWith
 refine wpAny_bind (wpAny_typeOf hit.typeIs ?_)
 have h1:Builtin.List.listSameRef (.ref S) (.ref it)=false:=by simp [Builtin.List.listSameRef,hSi]
 have h2:(Value.type "list_reverseiterator" == Value.type "list")=false:=by decide
 have h3:(Value.type "list_reverseiterator" == Value.type "tuple")=false:=by decide
 simp only [h1,h2,h3,Bool.or_false,Bool.false_eq_true,if_false]
 refine wpAny_bind (wpAny_pyIter_revIter hit ?_)
 refine wpAny_bind (wpAny_holding (rO hit ?_))
 refine wpAny_ite_split (fun _=>?_) (fun _=>wpAny_pure ⟨plainId_quiet F.plain_extend_loop _,key _ c₀ _ hit hl (fun b o _ e=>e) hS⟩)
 refine wpAny_bind (wpAny_rule ?_)
 refine wpAny_bind ?_
 show wpAny _ _ (updateSeq S (·.push .none) >>= fun _=>updateSeq S (·.pop)) _ _ _
 refine wpAny_bind (wpAny_updateSeq hS rfl ?_)
 have hS₂:=Heap.get?_update_self (Obj.mapSeq (·.push Value.none)) hS rfl
 refine wpAny_updateSeq (hz:=by seq_fits) hS₂ rfl ?_
 have hS₃:=Heap.get?_update_self (Obj.mapSeq (·.pop)) hS₂ rfl
 have oth : ∀ b o,b ≠ S→s.heap.get? b=some o→((s.heap.update S (Obj.mapSeq (·.push Value.none))).update S (Obj.mapSeq (·.pop))).get? b=some o :=
  fun b o hb e=>(Heap.get?_update_other _ _ (Ne.symm hb)).trans ((Heap.get?_update_other _ _ (Ne.symm hb)).trans e)
 exact wpAny_pure ⟨plainId_quiet F.plain_extend_loop _,key _ _ _ (hit.at fun o e=>oth it o (Ne.symm hSi) e) (hl.at fun o e=>oth l o (Ne.symm hSl) e) oth hS₃⟩
theorem lM {it l:Addr} {items:Array Value} (hh:A.handled=none) (hne:l ≠ it) (S:Addr) (hit:s.heap.IsRevIter it l ((items.size:Int) - 1)) (hl:s.heap.IsList l items) (hSi:S ≠ it) (hSl:S ≠ l)
  (hS:s.heap.get? S=some { cls:=.type "list", data:=.seq #[] })
  (hR : ∀ h' tk acc' c',(∀ b o,b ≠ S→b ≠ it→s.heap.get? b=some o→h'.get? b=some o)→h'.get? S=some { cls:=.type "list", dict:=none,data:=.seq acc' c',slots := #[] } →
   ItemsOf (fun i v=>items[items.size - 1 - i]?=some v) acc' items.size→R (.ok (.ret .none)) { s with heap:=h',toks:=tk }) (hn:items.size≤sizeLine) :
  wpAny (model prog w) A.in1 (Builtin.«list.__init__» ⟨[.ref S,.ref it],[]⟩)
   (fun fin s'=>match fin with | .done f=>R (.ok f) s' | .again c'=>c'.quiet=true∧codeAny (model prog w) A c' R s') (fun e s'=>R (.error e) s') s:=by
 show wpAny _ _ (do let old ← Builtin.List.listItems (.ref S); Builtin.List.listUpdate (.ref S) (fun _ => #[]); letGo old.toList.reverse; Builtin.List.listExtendWith (.ref S) (.ref it) .none) _ _ s
 refine wpAny_bind ?_
 unfold Builtin.List.listItems
 refine wpAny_bind (wpAny_seqItems hS rfl (wpAny_pure ?_))
 show wpAny _ _ (updateSeq S (fun _ => #[]) >>= fun _=>letGo (#[]:Array Value).toList.reverse >>= fun _=>Builtin.List.listExtendWith (.ref S) (.ref it) .none) _ _ s
 refine wpAny_bind (wpAny_updateSeq hS rfl ?_)
 have hS₂:=Heap.get?_update_self (Obj.mapSeq (fun _=>(#[]:Array Value))) hS rfl
 have oth : ∀ b o,b ≠ S→s.heap.get? b=some o→(s.heap.update S (Obj.mapSeq (fun _=>(#[]:Array Value)))).get? b=some o :=
  fun b o hb e=>(Heap.get?_update_other _ _ (Ne.symm hb)).trans e
 refine wpAny_bind (wpAny_letGo ?_)
 refine p6 hh hne S .none _ (hit.at fun o e=>oth it o (Ne.symm hSi) e) (hl.at fun o e=>oth l o (Ne.symm hSl) e) hSi hSl hS₂ (fun h' tk acc' c' hk hS' hacc=>?_) hn
 exact hR h' tk acc' c' (fun b o hb hb2 e=>hk b o hb hb2 (oth b o hb e)) hS' hacc
end
section
variable {prog:Program} {w:World} {A:Around} {E:Value→Shared→Prop} {s:Shared}
theorem uw {Q:Value→Shared→Prop} {it l:Addr} {items:Array Value} (hh:A.handled=none) (hne:l ≠ it) (hit:s.heap.IsRevIter it l ((items.size:Int) - 1)) (hl:s.heap.IsList l items) (hn:items.size≤sizeLine)
  (hQ : ∀ h' tk acc' c',(∀ b o,b ≠ it→s.heap.get? b=some o→h'.get? b=some o)→h'.get? s.heap.objs.size=some { cls:=.type "list", dict:=none,data:=.seq acc' c',slots := #[] } →
   ItemsOf (fun i v=>items[items.size - 1 - i]?=some v) acc' items.size→Q (.ref s.heap.objs.size) { s with heap:=h',toks:=tk }) :
  wpAny (model prog w) A (call (.type "list") [.ref it]) Q E s:=by
 obtain ⟨oi,hoi,_⟩:=id hit
 obtain ⟨ol,hol,_⟩:=id hl
 refine callType_codes (Q₁:=fun obj s₁=>obj=.ref s.heap.objs.size∧s₁={ s with heap:=s.heap.push { cls:=.type "list", data:=.seq #[] } }) F.called_list (F.typeCall_list_1 _) F.entry_list_init
  (code_list_new _ ⟨rfl,rfl⟩) fun obj s₁ h₁=>?_
 obtain ⟨rfl,rfl⟩:=h₁
 have hS:(s.heap.push { cls:=.type "list", data:=.seq #[] }).get? s.heap.objs.size=some { cls:=.type "list", data:=.seq #[] }:=Heap.get?_push_size _ rfl
 refine ⟨⟨_,hS,rfl⟩,F.args_list_init_2 _ _,lM (A:=A.in1) hh hne _ (hit.at fun o e=>Heap.get?_push_of_some _ e) (hl.at fun o e=>Heap.get?_push_of_some _ e) (Nat.ne_of_gt (Heap.lt_size hoi)) (Nat.ne_of_gt (Heap.lt_size hol)) hS (fun h' tk acc' c' hk hS' hacc=>?_) hn⟩
 exact ⟨rfl,hQ h' tk acc' c' (fun b o hb e=>hk b o (Nat.ne_of_lt (Heap.lt_size e)) hb (Heap.get?_push_of_some _ e)) hS' hacc⟩
end
end PySem
namespace L2
open PySem PySem.Spec PyProof.Rows PySem.W
section
variable {X:Cx}
def JC (K:PySem.W.Frag) (ta:TA):TE:=fun σ H Q=>ta σ H fun vs H1 => ∃ p ys,vs=[.ref p]∧SqL K H1 p ys ∧ ∀ l,H1 l=none→Q (.ref l) (upd H1 l (.lst ys.reverse))
theorem Ag {a:Expr} {ta:TA} {p p2 pos pos2:Pos} (hc:X.calm=true) (hg:Gl X "list") (hm:X.mg "list" = none) (hv:bootBuiltins "list" = some (.type "list")) (hg2:Gl X "reversed") (hm2:X.mg "reversed" = none) (hv2:bootBuiltins "reversed" = some (.type "reversed"))
  (ha:PA X [a] ta) (hs:starEach [a] X.env=[(false,eval a X.env)]:=by rfl)
  (he:starEach [.Call (.Name "reversed" p2) [a] [] pos2] X.env=(false,eval (.Call (.Name "reversed" p2) [a] [] pos2) X.env) :: starEach [] X.env:=by rfl) (hpl:(backTo pos (starEach [] X.env)).any (·.1)=false:=by rfl) :
  PE X (.Call (.Name "list" p) [.Call (.Name "reversed" p2) [a] [] pos2] [] pos) (JC X.K ta):=by
 intro pins s σ H Q I h
 refine wpAny_Call_Name_kw (eO I hg hm hv ?_)
 refine PyProof.Rows.callWith_type1 ?_ he hpl
 rw [he]
 show wpAny _ _ (spliced ((false,eval (.Call (.Name "reversed" p2) [a] [] pos2) X.env) :: backTo pos (starEach [] X.env))) _ _ s
 refine Calls.spliced_cons ?_
 refine Call_ (eO I hg2 hm2 hv2 (PyProof.Rows.callWith_type1 (thn (ha pos2 pins s σ H _ I h) fun us s1 ⟨vs,H1,I1,r1,q1⟩=>?_) hs rfl))
 obtain ⟨b,xs,e,hq,q⟩:=q1
 subst e
 obtain ⟨u,rfl,rx⟩:=vals1 r1
 cases rx
 obtain ⟨its,rv,pl,hz⟩:=I1.list hq
 have hl:=rv.length
 obtain ⟨ob,hob,hobc,hobn,hobd⟩:=id pl.isList
 have blt:b < s1.heap.objs.size:=Heap.lt_size hob
 refine call_reversed_list pl.isList ?_
 refine Calls.spliced_nil ?_
 refine uw (I.ok.hd hc) (l:=b) (items:=its.toArray) (Nat.ne_of_lt blt) ⟨_,Heap.get?_push_size _ rfl,rfl,rfl⟩ (pl.isList.push _) (by rw [List.size_toArray]; omega) fun h' tk acc' c' hk hS hacc=>?_
 have eacc:acc'=its.reverse.toArray:=by
  obtain ⟨e1,e2⟩:=hacc
  apply Array.ext
  ·rw [e1,List.size_toArray,List.size_toArray,List.length_reverse]
  ·intro i h1 h2
   have:=e2 i acc'[i] (Array.getElem?_eq_getElem h1)
   rw [List.size_toArray,List.getElem?_toArray,← List.getElem?_reverse (by rw [e1,List.size_toArray] at h1; exact h1)] at this
   rw [List.getElem_toArray]
   exact (Option.some.inj ((List.getElem?_eq_getElem _).symm.trans this)).symm
 subst eacc
 refine ⟨.ref _,_,I1.laid (t':=tk) (o:=.lst xs.reverse) (fun c o e=>hk c o (Nat.ne_of_lt (Heap.lt_size e)) (Heap.get?_push_of_some _ e)) ?_ ⟨by rw [List.length_reverse]; exact hz,its.reverse,c',rv.reverse,hS⟩,rfl,q _ (I1.hok.fresh ?_)⟩
 ·show s1.heap.objs.size≤(s1.heap.push _).objs.size
  simp [Heap.push]
 ·show s1.heap.objs.size≤(s1.heap.push _).objs.size
  simp [Heap.push]
end
end L2
set_option Elab.async false
set_option linter.all false
set_option maxRecDepth 100000
set_option maxHeartbeats 4000000
namespace Tw
def pairs (f:Nat):List Int:=(List.replicate f [1,0]).flatten
def Tree (ns:List Int):Prop:=2≤ns.length∧ht ns ns.length=0 ∧ ∀ k,0 < k→k < ns.length→0 < ht ns k
end Tw
set_option Elab.async false
set_option linter.all false
set_option maxRecDepth 100000
set_option maxHeartbeats 4000000
namespace Tw
def ir (n S:Nat):Prop := ∃ h,S=2 ^ h∧n≤S ∧ ∀ j,j < h→2 ^ j < n
theorem ir.uniq {n S S':Nat} (a:ir n S) (b:ir n S'):S=S':=by
 obtain ⟨h,rfl,h1,h2⟩:=a
 obtain ⟨k,rfl,k1,k2⟩:=b
 rcases Nat.lt_trichotomy h k with q | q | q
 ·have:=k2 h q
  omega
 ·rw [q]
 ·have:=h2 k q
  omega
theorem ir.pos {n S:Nat} (a:ir n S):1≤S:=by
 obtain ⟨h,rfl,_⟩:=a
 exact Nat.one_le_two_pow
theorem ir.le {n S:Nat} (a:ir n S) (h:n≤4096):S≤4096:=by
 obtain ⟨k,rfl,k1,k2⟩:=a
 rcases Nat.lt_or_ge 12 k with q | q
 ·have:=k2 12 q
  omega
 ·exact Nat.le_trans (Nat.pow_le_pow_right (by decide) q) (by decide)
def NodeOk (S st sp n e:Nat):Prop:=1≤n∧S≤n * 2 ^ e∧(n + 1) * 2 ^ e≤S + sp∧(1 < n→S≤n / 2 * 2 ^ (e + 1)∧(n / 2 + 1) * 2 ^ (e + 1)≤2 * S∧(n / 2 * 2 ^ (e + 1) < S + st∨S + sp < (n / 2 + 1) * 2 ^ (e + 1)))
def Chain (S st sp:Nat):List Nat→Nat→Nat→Prop
 | [],x,y=>x=y
 | n :: r,x,y => ∃ e,n * 2 ^ e=x∧NodeOk S st sp n e∧Chain S st sp r ((n + 1) * 2 ^ e) y
theorem Chain.append {S st sp:Nat} : ∀ {l m:List Nat} {x y z:Nat},Chain S st sp l x y→Chain S st sp m y z→Chain S st sp (l ++ m) x z
 | [],m,x,y,z,h,k=>by
  cases h
  exact k
 | n :: r,m,x,y,z,h,k=>by
  obtain ⟨e,h1,h2,h3⟩:=h
  exact ⟨e,h1,h2,h3.append k⟩
theorem Chain.one {S st sp n e:Nat} (h:NodeOk S st sp n e):Chain S st sp [n] (n * 2 ^ e) ((n + 1) * 2 ^ e):=⟨e,rfl,h,rfl⟩
structure Cov (S st sp e low high:Nat) (ls rs:List Nat):Prop where
 lo1:S + st≤low * 2 ^ e
 lo2:low * 2 ^ e < S + st + 2 ^ e
 hi1:high * 2 ^ e≤S + sp
 hi2:S + sp < high * 2 ^ e + 2 ^ e
 le:low≤high
 left:Chain S st sp ls (S + st) (low * 2 ^ e)
 right:Chain S st sp rs.reverse (high * 2 ^ e) (S + sp)
theorem Cov.start {S st sp:Nat} (h:st≤sp):Cov S st sp 0 (S + st) (S + sp) [] []:=by
 refine ⟨by omega,by omega,by omega,by omega,by omega,?_,?_⟩
 ·show S + st=(S + st) * 2 ^ 0
  omega
 ·show (S + sp) * 2 ^ 0=S + sp
  omega
theorem xZ {h e n:Nat} (h1:2 ^ h≤n * 2 ^ e) (h2:n * 2 ^ e < 2 * 2 ^ h) (h3:1 < n):e < h:=by
 rcases Nat.lt_or_ge e h with q | q
 ·exact q
 ·exfalso
  have:2 ^ h≤2 ^ e:=Nat.pow_le_pow_right (by decide) q
  have:2 * 2 ^ e≤n * 2 ^ e:=Nat.mul_le_mul_right _ h3
  omega
theorem Gx {h e m:Nat} (he:e < h) (h1:2 ^ h≤(2 * m + 1) * 2 ^ e):2 ^ h≤m * 2 ^ (e + 1):=by
 have e1:2 ^ h=2 ^ (h - e - 1) * 2 ^ (e + 1):=by
  rw [← Nat.pow_add]
  congr 1
  omega
 rw [e1] at h1 ⊢
 refine Nat.mul_le_mul_right _ ?_
 rw [Nat.pow_succ] at h1
 have h2:2 ^ (h - e - 1) * (2 ^ e * 2)=(2 * 2 ^ (h - e - 1)) * 2 ^ e:=by
  rw [Nat.mul_comm (2 ^ e) 2,← Nat.mul_assoc,Nat.mul_comm _ 2]
 rw [h2] at h1
 have:=Nat.le_of_mul_le_mul_right h1 (Nat.two_pow_pos e)
 omega
theorem Cov.leftOdd {S st sp e low high:Nat} {ls rs:List Nat} (c:Cov S st sp e low high ls rs) (hS : ∃ h,S=2 ^ h) (hsp:sp≤S) (h0:1≤S) (hlt:low < high) (ho:low % 2=1):Chain S st sp (ls ++ [low]) (S + st) ((low + 1) * 2 ^ e):=by
 obtain ⟨h,eS⟩:=hS
 obtain ⟨m,rfl⟩ : ∃ m,low=2 * m + 1:=⟨low / 2,by omega⟩
 have hp:0 < 2 ^ e:=Nat.two_pow_pos e
 have k1:(2 * m + 1 + 1) * 2 ^ e≤high * 2 ^ e:=Nat.mul_le_mul_right _ hlt
 have l1:=c.lo1
 have l2:=c.lo2
 have g1:=c.hi1
 have e1:(2 * m + 1) / 2=m:=by omega
 have e2:m * 2 ^ (e + 1)=2 * (m * 2 ^ e):=by rw [Nat.pow_succ,← Nat.mul_assoc,Nat.mul_comm]
 have e3:(2 * m + 1) * 2 ^ e=2 * (m * 2 ^ e) + 2 ^ e:=by rw [Nat.add_mul,Nat.mul_assoc,Nat.one_mul]
 have e4:(2 * m + 1 + 1) * 2 ^ e=2 * (m * 2 ^ e) + 2 ^ e + 2 ^ e:=by rw [Nat.add_mul,e3,Nat.one_mul]
 have e5:(m + 1) * 2 ^ (e + 1)=2 * (m * 2 ^ e) + 2 * 2 ^ e:=by rw [Nat.add_mul,e2,Nat.one_mul,Nat.pow_succ]; omega
 refine c.left.append (.one ⟨by omega,by omega,by omega,fun h1=>?_⟩)
 rw [e1]
 have ht:e < h:=by
  refine xZ (n:=2 * m + 1) ?_ ?_ h1
  ·rw [← eS]; omega
  ·rw [← eS]; omega
 have o:=Gx (m:=m) ht (by rw [← eS]; omega)
 rw [← eS] at o
 exact ⟨o,by omega,.inl (by omega)⟩
theorem Cov.rightOdd {S st sp e low high:Nat} {ls rs:List Nat} (c:Cov S st sp e low high ls rs) (hS : ∃ h,S=2 ^ h) (hsp:sp≤S) (h0:1≤S) (hlt:low < high) (ho:high % 2=1):Chain S st sp (rs ++ [high - 1]).reverse ((high - 1) * 2 ^ e) (S + sp):=by
 obtain ⟨m,rfl⟩ : ∃ m,high=2 * m + 1:=⟨high / 2,by omega⟩
 have hp:0 < 2 ^ e:=Nat.two_pow_pos e
 have k1:low * 2 ^ e≤(2 * m) * 2 ^ e:=Nat.mul_le_mul_right _ (by omega)
 have l1:=c.lo1
 have g1:=c.hi1
 have g2:=c.hi2
 have hl0:1≤low:=by
  rcases Nat.eq_zero_or_pos low with q | q
  ·rw [q,Nat.zero_mul] at l1
   omega
  ·exact q
 have e2:m * 2 ^ (e + 1)=2 * (m * 2 ^ e):=by rw [Nat.pow_succ,← Nat.mul_assoc,Nat.mul_comm]
 have e3:(2 * m + 1) * 2 ^ e=2 * (m * 2 ^ e) + 2 ^ e:=by rw [Nat.add_mul,Nat.mul_assoc,Nat.one_mul]
 have e4:(2 * m) * 2 ^ e=2 * (m * 2 ^ e):=by rw [Nat.mul_assoc]
 have e5:(m + 1) * 2 ^ (e + 1)=2 * (m * 2 ^ e) + 2 * 2 ^ e:=by rw [Nat.add_mul,e2,Nat.one_mul,Nat.pow_succ]; omega
 have e6:2 * m + 1 - 1=2 * m:=by omega
 have e7:2 * m / 2=m:=by omega
 have hr:=c.right
 rw [List.reverse_append,e6]
 refine Chain.append (l:=[2 * m]) (.one ⟨by omega,by omega,by omega,fun h1=>?_⟩) hr
 rw [e7]
 obtain ⟨h,eS⟩:=hS
 have ht:e < h:=by
  refine xZ (n:=2 * m) ?_ ?_ h1
  ·rw [← eS]; omega
  ·rw [← eS]; omega
 have e8:2 * S=2 ^ (h - e) * 2 ^ (e + 1):=by
  rw [eS,← Nat.pow_add,Nat.mul_comm,← Nat.pow_succ]
  congr 1
  omega
 refine ⟨by omega,?_,.inr (by omega)⟩
 rw [e8]
 refine Nat.mul_le_mul_right _ ?_
 have:m * 2 ^ (e + 1) < 2 ^ (h - e) * 2 ^ (e + 1):=by omega
 have:=Nat.lt_of_mul_lt_mul_right this
 omega
theorem Cov.step {S st sp e low high:Nat} {ls rs:List Nat} (c:Cov S st sp e low high ls rs) (hS : ∃ h,S=2 ^ h) (hsp:sp≤S) (h0:1≤S) (hlt:low < high) :
  Cov S st sp (e + 1) ((low + low % 2) / 2) ((high - high % 2) / 2) (if low % 2=1 then ls ++ [low] else ls) (if high % 2=1 then rs ++ [high - 1] else rs):=by
 have l1:=c.lo1
 have l2:=c.lo2
 have g1:=c.hi1
 have g2:=c.hi2
 have hp:0 < 2 ^ e:=Nat.two_pow_pos e
 have ep:2 ^ (e + 1)=2 * 2 ^ e:=by rw [Nat.pow_succ,Nat.mul_comm]
 have twice : ∀ m,m * 2 ^ (e + 1)=(2 * m) * 2 ^ e:=fun m=>by rw [ep,← Nat.mul_assoc,Nat.mul_comm m 2]
 have el:2 * ((low + low % 2) / 2)=low + low % 2:=by omega
 have eh:2 * ((high - high % 2) / 2)=high - high % 2:=by omega
 have q1:(low + low % 2) * 2 ^ e=low * 2 ^ e + (low % 2) * 2 ^ e:=Nat.add_mul ..
 have q2:(high - high % 2) * 2 ^ e + (high % 2) * 2 ^ e=high * 2 ^ e:=by
  rw [← Nat.add_mul]
  congr 1
  omega
 have r1:(low % 2) * 2 ^ e=if low % 2=1 then 2 ^ e else 0:=by
  split
  ·rename_i z; rw [z,Nat.one_mul]
  ·rename_i z; rw [show low % 2=0 from by omega,Nat.zero_mul]
 have r2:(high % 2) * 2 ^ e=if high % 2=1 then 2 ^ e else 0:=by
  split
  ·rename_i z; rw [z,Nat.one_mul]
  ·rename_i z; rw [show high % 2=0 from by omega,Nat.zero_mul]
 refine ⟨?_,?_,?_,?_,by omega,?_,?_⟩
 ·rw [twice,el,q1]
  omega
 ·rw [twice,el,q1,ep,r1]
  split <;> omega
 ·rw [twice,eh]
  omega
 ·rw [twice,eh,ep]
  rw [r2] at q2
  split at q2 <;> omega
 ·rw [twice,el]
  split
  ·rename_i z
   rw [z]
   exact c.leftOdd hS hsp h0 hlt z
  ·rename_i z
   rw [show low % 2=0 from by omega,Nat.add_zero]
   exact c.left
 ·rw [twice,eh]
  split
  ·rename_i z
   rw [z]
   exact c.rightOdd hS hsp h0 hlt z
  ·rename_i z
   rw [show high % 2=0 from by omega,Nat.sub_zero]
   exact c.right
theorem Cov.fin {S st sp e low high:Nat} {ls rs:List Nat} (c:Cov S st sp e low high ls rs) (h:high≤low):Chain S st sp (ls ++ rs.reverse) (S + st) (S + sp):=by
 have:low=high:=Nat.le_antisymm c.le h
 subst this
 exact c.left.append c.right
end Tw
namespace Tw
def uJ:Nat→Nat→Nat→List Nat→List Nat→List Nat
 | 0,_,_,ls,rs=>ls ++ rs.reverse
 | f + 1,low,high,ls,rs=>if low < high then uJ f ((low + low % 2) / 2) ((high - high % 2) / 2) (if low % 2=1 then ls ++ [low] else ls) (if high % 2=1 then rs ++ [high - 1] else rs) else ls ++ rs.reverse
theorem Gb {f low high:Nat} {ls rs:List Nat} (h:high≤low):uJ f low high ls rs=ls ++ rs.reverse:=by
 cases f with
 | zero=>rfl
 | succ f =>
  unfold uJ
  rw [if_neg (by omega)]
theorem rP {S st sp:Nat} (hS : ∃ h,S=2 ^ h) (hsp:sp≤S) (h0:1≤S) : ∀ (f e low high:Nat) (ls rs:List Nat),Cov S st sp e low high ls rs→high - low≤f→Chain S st sp (uJ f low high ls rs) (S + st) (S + sp)
 | 0,e,low,high,ls,rs,c,h=>c.fin (by omega)
 | f + 1,e,low,high,ls,rs,c,h=>by
  unfold uJ
  by_cases q:low < high
  ·rw [if_pos q]
   exact rP hS hsp h0 f (e + 1) _ _ _ _ (c.step hS hsp h0 q) (by omega)
  ·rw [if_neg q]
   exact c.fin (by omega)
def cover (S st sp:Nat):List Nat:=uJ (sp - st) (S + st) (S + sp) [] []
theorem kE {S st sp:Nat} (hS : ∃ h,S=2 ^ h) (h:st≤sp) (hsp:sp≤S) (h0:1≤S):Chain S st sp (cover S st sp) (S + st) (S + sp) :=
 rP hS hsp h0 _ 0 _ _ _ _ (.start h) (by omega)
end Tw
set_option Elab.async false
set_option linter.all false
set_option maxRecDepth 100000
set_option maxHeartbeats 4000000
namespace PySem
open PyProof.Rows
namespace F
end F
section
variable {prog:Program} {w:World} {A:Around} {E:Value→Shared→Prop} {s:Shared}
end
end PySem
namespace L2
open PySem PySem.Spec PyProof.Rows
section
variable {X:Cx} {tg:Expr}
theorem Hi (a b:Nat):Builtin.Range.rangeSize a b (-1)=((a - b:Nat):Int):=by
 unfold Builtin.Range.rangeSize
 rw [if_neg (by decide),show (- -1:Int)=1 from rfl,Int.ediv_one]
 split <;> omega
theorem Bb {a b:Nat} (ha:a < 536870912) (hb:b < 536870912):Builtin.Range.small a b (-1)=true:=by
 unfold Builtin.Range.small Builtin.Range.rangeFitsLong
 rw [Hi]
 have e:(2:Int) ^ 63=9223372036854775808:=by decide
 rw [e,if_neg (by decide)]
 refine mJ (mJ (mJ (mJ (mJ (decide_eq_true ?_) (decide_eq_true ?_)) (mJ (decide_eq_true ?_) (decide_eq_true ?_))) (by decide)) (mJ (decide_eq_true ?_) (decide_eq_true ?_))) ?_
 ·omega
 ·omega
 ·omega
 ·omega
 ·omega
 ·omega
 ·rw [Bool.or_eq_true]
  exact .inr (mJ (decide_eq_true (by omega)) (decide_eq_true (by omega)))
def Jc (ta:TA):TI:=fun σ H R=>ta σ H fun vs H1 => ∃ a b:Nat,vs=[.int (a:Int),.int (b:Int),.int (-1)]∧a < 536870912∧b < 536870912∧R (Its a (-1) (a - b)) H1
theorem Av {a b c:Expr} {ta:TA} {p pos:Pos} (hg:Gl X "range") (hm:X.mg "range" = none) (ha:PA X [a,b,c] ta) (hs:starEach [a,b,c] X.env=[(false,eval a X.env),(false,eval b X.env),(false,eval c X.env)]:=by rfl)
  (hs2:starEach [b,c] X.env=[(false,eval b X.env),(false,eval c X.env)]:=by rfl):PI X tg (.Call (.Name "range" p) [a,b,c] [] pos) (Jc ta):=by
 intro pins s σ H R I h
 refine Call_ (eO I hg hm boot_range (PyProof.Rows.callWith_type1 (thn (ha pos pins s σ H _ I h) fun us s1 ⟨vs,H1,I1,r1,q1⟩=>?_) (by rw [hs,hs2]) (by rw [hs2]; rfl)))
 obtain ⟨x,y,e,l0,l1,q⟩:=q1
 subst e
 cases r1 with
 | cons r rr =>
  cases rr with
  | cons r' rr =>
   cases rr with
   | cons r'' rr =>
    cases rr
    obtain ⟨t,rfl⟩:=r
    obtain ⟨t',rfl⟩:=r'
    obtain ⟨t'',rfl⟩:=r''
    refine call_range_3 (by decide) ?_ (.inl (PyProof.noPylong_small (by decide)))
    refine wpAny_pyIter_range (IsRange.new ..) (Bb l0 l1) ?_
    have I2:Inv X pins σ H1 { s1 with heap:=s1.heap.push { cls:=.type "range", data:=.fields #[.int x t,.int y t',.int (-1) t''] },toks:=s1.toks }:=I1.kept fun b o e=>Heap.get?_push_of_some _ e
    refine ⟨(s1.heap.push { cls:=.type "range", data:=.fields #[.int x t,.int y t',.int (-1) t''] }).objs.size,[(s1.heap.push { cls:=.type "range", data:=.fields #[.int x t,.int y t',.int (-1) t''] }).objs.size],_,_,H1,rfl,
     I2.kept (t':=s1.toks) fun b o e=>Heap.get?_push_of_some _ e,u5 _ x (-1) (x - y),?_,fun b hb=>?_,q⟩
    ·have e1:(x:Int) + ((0:Nat):Int) * (-1)=x:=by omega
     have e2:((x - y:Nat):Int) - ((0:Nat):Int)=Builtin.Range.rangeSize x y (-1):=by rw [Hi]; omega
     show IsRangeIter _ _ ((x:Int) + ((0:Nat):Int) * (-1)) (((x - y:Nat):Int) - ((0:Nat):Int)) (-1)
     rw [e1,e2]
     exact Heap.get?_push_size _ rfl
    ·have e:b=(s1.heap.push { cls:=.type "range", data:=.fields #[.int x t,.int y t',.int (-1) t''] }).objs.size:=by simpa using hb
     subst e
     exact I2.fpOk (Nat.le_refl _) (I2.hok.fresh (Nat.le_refl _))
end
end L2
set_option Elab.async false
set_option linter.all false
set_option maxRecDepth 100000
set_option maxHeartbeats 4000000
namespace Tw
open L2
def NI (x:V):Prop:=x=.non ∨ ∃ i,x=.int i
def vz:V→V→V
 | .non,y=>y
 | .int a,.int b=>.int (if b < a then b else a)
 | x,_=>x
theorem vA (y:V):vz .non y=y:=by cases y <;> rfl
theorem EY {x y:V} (hx:NI x) (hy:NI y):NI (vz x y):=by
 rcases hx with rfl | ⟨i,rfl⟩
 ·rw [vA]
  exact hy
 ·rcases hy with rfl | ⟨j,rfl⟩
  ·exact .inr ⟨i,rfl⟩
  ·exact .inr ⟨_,rfl⟩
def yp (ns:List Int) (i:Nat):V:=match ns[i]? with | some c=>.int c | none=>.non
theorem mF {ns:List Int} {i:Nat} {c:Int} (h:ns[i]?=some c):yp ns i=.int c:=by
 unfold yp
 rw [h]
theorem zK {ns:List Int} {i:Nat} (h:ns.length≤i):yp ns i=.non:=by
 unfold yp
 rw [List.getElem?_eq_none h]
structure fU (ns:List Int) (S k:Nat) (xs:List V):Prop where
 len:xs.length=2 * S
 zero:xs[0]?=some .non
 leaf : ∀ i,i < S→xs[S + i]?=some (yp ns i)
 node : ∀ j,k≤j→1≤j→j < S → ∃ x y,xs[2 * j]?=some x∧xs[2 * j + 1]?=some y∧xs[j]?=some (vz x y)
 ni : ∀ x∈xs,NI x
theorem fU.start {ns:List Int} {S:Nat} (h0:1≤S) (hl:ns.length≤S):fU ns S S (List.replicate S V.non ++ ns.map V.int ++ List.replicate (S - ns.length) V.non):=by
 refine ⟨?_,?_,fun i hi=>?_,fun j h1 h2 h3=>by omega,fun x hx=>?_⟩
 ·simp only [List.length_append,List.length_replicate,List.length_map]
  omega
 ·rw [List.append_assoc,List.getElem?_append_left (by rw [List.length_replicate]; omega),List.getElem?_replicate,if_pos (by omega)]
 ·rw [List.append_assoc,List.getElem?_append_right (by rw [List.length_replicate]; omega),List.length_replicate,Nat.add_sub_cancel_left]
  by_cases h:i < ns.length
  ·rw [List.getElem?_append_left (by rw [List.length_map]; exact h),List.getElem?_map,List.getElem?_eq_getElem h,mF (List.getElem?_eq_getElem h)]
   rfl
  ·rw [List.getElem?_append_right (by rw [List.length_map]; omega),List.length_map,List.getElem?_replicate,if_pos (by omega),zK (by omega)]
 ·rcases List.mem_append.mp hx with hx | hx
  ·rcases List.mem_append.mp hx with hx | hx
   ·exact .inl (List.eq_of_mem_replicate hx)
   ·obtain ⟨i,_,rfl⟩:=List.mem_map.mp hx
    exact .inr ⟨i,rfl⟩
  ·exact .inl (List.eq_of_mem_replicate hx)
theorem fU.step {ns:List Int} {S k:Nat} {xs:List V} {x y:V} (h:fU ns S (k + 1) xs) (h1:1≤k) (hk:k < S) (hx:xs[2 * k]?=some x) (hy:xs[2 * k + 1]?=some y):fU ns S k (xs.set k (vz x y)):=by
 have hl:=h.len
 have oth : ∀ j,j ≠ k→(xs.set k (vz x y))[j]?=xs[j]?:=fun j hj=>List.getElem?_set_ne (Ne.symm hj)
 refine ⟨by rw [List.length_set]; exact hl,?_,fun i hi=>?_,fun j a b c=>?_,fun z hz=>?_⟩
 ·rw [oth 0 (by omega)]
  exact h.zero
 ·rw [oth (S + i) (by omega)]
  exact h.leaf i hi
 ·by_cases e:j=k
  ·subst e
   refine ⟨x,y,?_,?_,?_⟩
   ·rw [oth (2 * j) (by omega)]
    exact hx
   ·rw [oth (2 * j + 1) (by omega)]
    exact hy
   ·exact List.getElem?_set_self (by omega)
  ·obtain ⟨u,v,e1,e2,e3⟩:=h.node j (by omega) b c
   refine ⟨u,v,?_,?_,?_⟩
   ·rw [oth (2 * j) (by omega)]
    exact e1
   ·rw [oth (2 * j + 1) (by omega)]
    exact e2
   ·rw [oth j e]
    exact e3
 ·rcases List.mem_or_eq_of_mem_set hz with hz | rfl
  ·exact h.ni z hz
  ·exact EY (h.ni x (List.mem_of_getElem? hx)) (h.ni y (List.mem_of_getElem? hy))
theorem lN {xs:List V} {j:Nat} {x:V} (h:xs[j]?=some x):atI xs (j:Int)=some x:=By h
end Tw
set_option Elab.async false
set_option linter.all false
set_option maxRecDepth 100000
set_option maxHeartbeats 4000000
namespace Tw
open L2
def nY (ns:List Int) (a b:Nat) (M:Int):Prop:=(∃ i,a≤i∧i < b∧ns[i]?=some M) ∧ ∀ i c,a≤i→i < b→ns[i]?=some c→M≤c
theorem nY.join {ns:List Int} {a b c:Nat} {M N:Int} (h:nY ns a b M) (k:nY ns b c N) (hab:a≤b) (hbc:b≤c):nY ns a c (if N < M then N else M):=by
 obtain ⟨⟨i,i1,i2,i3⟩,h2⟩:=h
 obtain ⟨⟨j,j1,j2,j3⟩,k2⟩:=k
 constructor
 ·split
  ·exact ⟨j,by omega,j2,j3⟩
  ·exact ⟨i,i1,by omega,i3⟩
 ·intro t x t1 t2 e
  rcases Nat.lt_or_ge t b with q | q
  ·have:=h2 t x t1 q e
   split <;> omega
  ·have:=k2 t x q t2 e
   split <;> omega
theorem fU.least {ns:List Int} {S:Nat} {xs:List V} (h:fU ns S 1 xs) (hl:ns.length≤S) : ∀ e n a:Nat,n * 2 ^ e=S + a→a + 2 ^ e≤ns.length→1≤n → ∃ M,xs[n]?=some (.int M)∧nY ns a (a + 2 ^ e) M
 | 0,n,a,h1,h2,h3=>by
  rw [Nat.pow_zero] at h2
  rw [Nat.pow_zero,Nat.mul_one] at h1
  have hg:ns[a]?=some ns[a]:=List.getElem?_eq_getElem (by omega)
  have:=h.leaf a (by omega)
  rw [← h1,mF hg] at this
  refine ⟨_,this,⟨a,Nat.le_refl _,by omega,hg⟩,fun i c i1 i2 e=>?_⟩
  have:i=a:=by omega
  subst this
  rw [hg] at e
  cases e
  exact Int.le_refl _
 | e + 1,n,a,h1,h2,h3=>by
  have hp:0 < 2 ^ e:=Nat.two_pow_pos e
  have ep:2 ^ (e + 1)=2 * 2 ^ e:=by rw [Nat.pow_succ,Nat.mul_comm]
  rw [ep] at h1 h2
  have c1:2 * n * 2 ^ e=S + a:=by rw [← h1,← Nat.mul_assoc,Nat.mul_comm n 2]
  have c2:(2 * n + 1) * 2 ^ e=S + (a + 2 ^ e):=by rw [Nat.add_mul,c1,Nat.one_mul]; omega
  have hn:n < S:=by
   rcases Nat.lt_or_ge n S with z | z
   ·exact z
   ·exfalso
    have:S * (2 * 2 ^ e)≤n * (2 * 2 ^ e):=Nat.mul_le_mul_right _ z
    have:2 * S≤S * (2 * 2 ^ e):=by
     rw [Nat.mul_comm 2 S]
     exact Nat.mul_le_mul_left _ (by omega)
    omega
  obtain ⟨M,e1,m1⟩:=fU.least h hl e (2 * n) a c1 (by omega) (by omega)
  obtain ⟨N,e2,m2⟩:=fU.least h hl e (2 * n + 1) (a + 2 ^ e) c2 (by omega) (by omega)
  obtain ⟨x,y,f1,f2,f3⟩:=h.node n h3 h3 hn
  rw [e1] at f1
  rw [e2] at f2
  cases f1
  cases f2
  refine ⟨_,f3,?_⟩
  have:=m1.join m2 (by omega) (by omega)
  rw [ep,show a + 2 * 2 ^ e=a + 2 ^ e + 2 ^ e from by omega]
  exact this
def jb (xs:List V) (n:Nat):Int:=match xs[n]? with | some (.int M)=>M | _=>0
theorem gm {xs:List V} {n:Nat} {M:Int} (h:xs[n]?=some (.int M)):jb xs n=M:=by
 unfold jb
 rw [h]
theorem gJ {ns:List Int} {S st sp:Nat} {xs:List V} (h:fU ns S 1 xs) (hl:ns.length≤S) (hsp:sp≤ns.length) : ∀ {l:List Nat} {a b:Nat},Chain S st sp l (S + a) (S + b)→b≤sp →
  a≤b∧(∀ n∈l,1≤n∧n < 2 * S∧xs[n]?=some (.int (jb xs n)))∧(∀ v∈l.map (jb xs),∃ i,a≤i∧i < b∧ns[i]?=some v) ∧ ∀ i c,a≤i→i < b→ns[i]?=some c → ∃ v∈l.map (jb xs),v≤c
 | [],a,b,hc,_=>by
  have hc:S + a=S + b:=hc
  exact ⟨by omega,nofun,nofun,fun i c i1 i2 _=>by omega⟩
 | n :: r,a,b,hc,hb=>by
  obtain ⟨e,e1,⟨n1,n2,n3,_⟩,ch⟩:=hc
  have hp:0 < 2 ^ e:=Nat.two_pow_pos e
  have e5:(n + 1) * 2 ^ e=S + (a + 2 ^ e):=by rw [Nat.succ_mul,e1]; omega
  rw [e5] at ch n3
  obtain ⟨i1,i2,i3,i4⟩:=gJ h hl hsp ch hb
  obtain ⟨M,m1,m2,m3⟩:=h.least hl e n a e1 (by omega) n1
  have ev:=gm m1
  have hnl:n≤n * 2 ^ e:=Nat.le_mul_of_pos_right _ hp
  refine ⟨by omega,fun k hk=>?_,fun v hv=>?_,fun i c j1 j2 ec=>?_⟩
  ·rcases List.mem_cons.mp hk with rfl | hk
   ·exact ⟨n1,by omega,by rw [ev]; exact m1⟩
   ·exact i2 k hk
  ·rw [List.map_cons] at hv
   rcases List.mem_cons.mp hv with rfl | hv
   ·obtain ⟨i,a1,a2,a3⟩:=m2
    exact ⟨i,a1,by omega,by rw [ev]; exact a3⟩
   ·obtain ⟨i,a1,a2,a3⟩:=i3 v hv
    exact ⟨i,by omega,a2,a3⟩
  ·rcases Nat.lt_or_ge i (a + 2 ^ e) with q | q
   ·exact ⟨M,by rw [List.map_cons,ev]; exact .head _,m3 i c j1 q ec⟩
   ·obtain ⟨v,v1,v2⟩:=i4 i c q j2 ec
    exact ⟨v,by rw [List.map_cons]; exact .tail _ v1,v2⟩
theorem CG {ns:List Int} {S st sp:Nat} {xs:List V} (h:fU ns S 1 xs) (hl:ns.length≤S) (hsp:sp≤ns.length) {l:List Nat} {a b:Nat} (hc:Chain S st sp l (S + a) (S + b)) (hb:b≤sp) {M:Int} (hM:rE M (l.map (jb xs))):nY ns a b M:=by
 obtain ⟨_,_,h3,h4⟩:=gJ h hl hsp hc hb
 refine ⟨h3 M hM.1,fun i c i1 i2 e=>?_⟩
 obtain ⟨v,v1,v2⟩:=h4 i c i1 i2 e
 have:=hM.2 v v1
 omega
theorem xJ {S st sp h:Nat} (hS:S=2 ^ h) (hsp:sp≤S) : ∀ (f e low high:Nat) (ls rs:List Nat),Cov S st sp e low high ls rs→high - low≤f→(uJ f low high ls rs).length≤ls.length + rs.length + 2 * (h + 1 - e)
 | 0,e,low,high,ls,rs,c,hf=>by
  show (ls ++ rs.reverse).length≤_
  rw [List.length_append,List.length_reverse]
  omega
 | f + 1,e,low,high,ls,rs,c,hf=>by
  unfold uJ
  have h0:1≤S:=by rw [hS]; exact Nat.one_le_two_pow
  by_cases q:low < high
  ·rw [if_pos q]
   have he:e < h + 1:=by
    rcases Nat.lt_or_ge e (h + 1) with z | z
    ·exact z
    ·exfalso
     have p1:2 ^ (h + 1)≤2 ^ e:=Nat.pow_le_pow_right (by decide) z
     rw [Nat.pow_succ] at p1
     have hl0:1≤low:=by
      rcases Nat.eq_zero_or_pos low with y | y
      ·have:=c.lo1
       rw [y,Nat.zero_mul] at this
       omega
      ·exact y
     have:2 * 2 ^ e≤high * 2 ^ e:=Nat.mul_le_mul_right _ (by omega)
     have:=c.hi1
     omega
   have:=xJ hS hsp f (e + 1) _ _ _ _ (c.step ⟨h,hS⟩ hsp h0 q) (by omega)
   have e1:(if low % 2=1 then ls ++ [low] else ls).length≤ls.length + 1:=by split <;> simp
   have e2:(if high % 2=1 then rs ++ [high - 1] else rs).length≤rs.length + 1:=by split <;> simp
   omega
  ·rw [if_neg q,List.length_append,List.length_reverse]
   omega
theorem Dn {S st sp h:Nat} (hS:S=2 ^ h) (hst:st≤sp) (hsp:sp≤S):(cover S st sp).length≤2 * h + 2:=by
 have:=xJ hS hsp (sp - st) 0 (S + st) (S + sp) [] [] (.start hst) (by omega)
 simp only [List.length_nil] at this
 unfold cover
 omega
end Tw
set_option Elab.async false
set_option linter.all false
set_option maxRecDepth 100000
set_option maxHeartbeats 4000000
namespace Tw
open L2
theorem fU.kids {ns:List Int} {S:Nat} {xs:List V} (h:fU ns S 1 xs) (hl:ns.length≤S) {e m b:Nat} (h1:m * 2 ^ (e + 1)=S + b) (h2:b + 2 ^ (e + 1)≤ns.length) (h3:1≤m) :
  ∃ M N,xs[2 * m]?=some (.int M)∧xs[2 * m + 1]?=some (.int N)∧nY ns b (b + 2 ^ e) M∧nY ns (b + 2 ^ e) (b + 2 ^ (e + 1)) N∧jb xs m=(if N < M then N else M)∧2 * m * 2 ^ e=S + b∧(2 * m + 1) * 2 ^ e=S + (b + 2 ^ e)∧m < S:=by
 have hp:0 < 2 ^ e:=Nat.two_pow_pos e
 have ep:2 ^ (e + 1)=2 * 2 ^ e:=by rw [Nat.pow_succ,Nat.mul_comm]
 rw [ep] at h1 h2 ⊢
 have c1:2 * m * 2 ^ e=S + b:=by rw [← h1,← Nat.mul_assoc,Nat.mul_comm m 2]
 have c2:(2 * m + 1) * 2 ^ e=S + (b + 2 ^ e):=by rw [Nat.add_mul,c1,Nat.one_mul]; omega
 have hn:m < S:=by
  rcases Nat.lt_or_ge m S with z | z
  ·exact z
  ·exfalso
   have:S * (2 * 2 ^ e)≤m * (2 * 2 ^ e):=Nat.mul_le_mul_right _ z
   have:2 * S≤S * (2 * 2 ^ e):=by
    rw [Nat.mul_comm 2 S]
    exact Nat.mul_le_mul_left _ (by omega)
   omega
 obtain ⟨M,e1,m1⟩:=h.least hl e (2 * m) b c1 (by omega) (by omega)
 obtain ⟨N,e2,m2⟩:=h.least hl e (2 * m + 1) (b + 2 ^ e) c2 (by omega) (by omega)
 obtain ⟨x,y,f1,f2,f3⟩:=h.node m h3 h3 hn
 rw [e1] at f1
 rw [e2] at f2
 cases f1
 cases f2
 refine ⟨M,N,e1,e2,m1,?_,gm f3,c1,c2,hn⟩
 rw [show b + 2 * 2 ^ e=b + 2 ^ e + 2 ^ e from by omega]
 exact m2
def Hit (ns:List Int) (s x y:Nat) (g:Int) (i:Nat):Prop:=x≤i∧i < y∧(∃ c,ns[i]?=some c∧c≤g) ∧ ∀ j c,x≤j→j < y→(if s=0 then j < i else i < j)→ns[j]?=some c→g < c
structure uA (ns:List Int) (xs:List V) (S s x y:Nat) (g:Int) (e m b:Nat):Prop where
 at_:m * 2 ^ e=S + b
 lo:x≤b
 hi:b + 2 ^ e≤y
 one:1≤m
 low:jb xs m≤g
 out : ∀ j c,x≤j→j < y→(if s=0 then j < b else b + 2 ^ e≤j)→ns[j]?=some c→g < c
theorem uA.hit {ns:List Int} {xs:List V} {S s x y m b:Nat} {g:Int} (h:fU ns S 1 xs) (hl:ns.length≤S) (hy:y≤ns.length) (hs:s≤1) (d:uA ns xs S s x y g 0 m b):m=S + b∧Hit ns s x y g b:=by
 have h1:=d.at_
 have h2:=d.hi
 rw [Nat.pow_zero] at h1 h2
 obtain ⟨M,e1,⟨i,i1,i2,i3⟩,_⟩:=h.least hl 0 m b d.at_ (by rw [Nat.pow_zero]; omega) d.one
 have ei:i=b:=by rw [Nat.pow_zero] at i2; omega
 subst ei
 have hlow:=d.low
 rw [gm e1] at hlow
 refine ⟨by omega,d.lo,by omega,⟨M,i3,hlow⟩,fun j c j1 j2 j3 ec=>d.out j c j1 j2 ?_ ec⟩
 split
 ·rename_i z
  rw [if_pos z] at j3
  exact j3
 ·rename_i z
  rw [if_neg z] at j3
  rw [Nat.pow_zero]
  omega
theorem uA.step {ns:List Int} {xs:List V} {S s x y m b e:Nat} {g:Int} (h:fU ns S 1 xs) (hl:ns.length≤S) (hy:y≤ns.length) (hs:s≤1) (d:uA ns xs S s x y g (e + 1) m b) :
  ∃ v,xs[2 * m + s]?=some (.int v)∧m < S∧2 * m + s < 2 * S∧(v≤g → ∃ b',uA ns xs S s x y g e (2 * m + s) b')∧(g < v → ∃ b',uA ns xs S s x y g e (2 * m + 1 - s) b'):=by
 have hhi:=d.hi
 have hlo:=d.lo
 have hone:=d.one
 have hp:0 < 2 ^ e:=Nat.two_pow_pos e
 have ep:2 ^ (e + 1)=2 * 2 ^ e:=by rw [Nat.pow_succ,Nat.mul_comm]
 obtain ⟨M,N,e1,e2,m1,m2,ev,c1,c2,hm⟩:=h.kids hl d.at_ (by omega) hone
 have hlow:=d.low
 rw [ev] at hlow
 have hout:=d.out
 rw [ep] at hhi hout m2
 rcases (show s=0∨s=1 by omega) with rfl | rfl
 ·refine ⟨M,e1,hm,by omega,fun hv=>⟨b,c1,hlo,by omega,by omega,by rw [Nat.add_zero,gm e1]; exact hv,fun j c j1 j2 j3 ec=>hout j c j1 j2 j3 ec⟩,fun hv=>⟨b + 2 ^ e,c2,by omega,by omega,by omega,?_,fun j c j1 j2 j3 ec=>?_⟩⟩
  ·show jb xs (2 * m + 1 - 0)≤g
   rw [Nat.sub_zero,gm e2]
   split at hlow <;> omega
  ·rw [if_pos rfl] at j3
   rcases Nat.lt_or_ge j b with z | z
   ·exact hout j c j1 j2 (by rw [if_pos rfl]; exact z) ec
   ·have:=m1.2 j c z j3 ec
    omega
 ·refine ⟨N,e2,hm,by omega,fun hv=>⟨b + 2 ^ e,c2,by omega,by omega,by omega,by rw [gm e2]; exact hv,fun j c j1 j2 j3 ec=>hout j c j1 j2 ?_ ec⟩,fun hv=>⟨b,?_,hlo,by omega,by omega,?_,fun j c j1 j2 j3 ec=>?_⟩⟩
  ·rw [if_neg (by decide)] at j3 ⊢
   omega
  ·rw [Nat.add_sub_cancel]
   exact c1
  ·rw [Nat.add_sub_cancel,gm e1]
   split at hlow <;> omega
  ·rw [if_neg (by decide)] at j3
   rcases Nat.lt_or_ge j (b + 2 * 2 ^ e) with z | z
   ·have:=m2.2 j c j3 z ec
    omega
   ·exact hout j c j1 j2 (by rw [if_neg (by decide)]; exact z) ec
theorem uA.start {ns:List Int} {xs:List V} {S s n a e:Nat} {g:Int} (h1:n * 2 ^ e=S + a) (h2:1≤n) (h3:jb xs n≤g):uA ns xs S s a (a + 2 ^ e) g e n a :=
 ⟨h1,Nat.le_refl _,Nat.le_refl _,h2,h3,fun j c j1 j2 j3 _=>by split at j3 <;> omega⟩
theorem qz {S st sp:Nat} : ∀ {l:List Nat} {x y:Nat} (k:Nat),Chain S st sp l x y → ∃ z,Chain S st sp (l.take k) x z∧Chain S st sp (l.drop k) z y
 | l,x,y,0,h=>⟨x,rfl,h⟩
 | [],x,y,k + 1,h=>⟨x,rfl,h⟩
 | n :: r,x,y,k + 1,h=>by
  obtain ⟨e,h1,h2,h3⟩:=h
  obtain ⟨z,z1,z2⟩:=qz k h3
  exact ⟨z,⟨e,h1,h2,z1⟩,z2⟩
theorem yU {S st sp:Nat} : ∀ {l:List Nat} {x y:Nat},Chain S st sp l x y→x≤y
 | [],x,y,h=>Nat.le_of_eq h
 | n :: r,x,y,h=>by
  obtain ⟨e,h1,_,h3⟩:=h
  have:=yU h3
  have:n * 2 ^ e≤(n + 1) * 2 ^ e:=Nat.mul_le_mul_right _ (Nat.le_succ _)
  omega
end Tw
set_option Elab.async false
set_option linter.all false
set_option maxRecDepth 100000
set_option maxHeartbeats 4000000
namespace L2
open PySem PySem.Spec PyProof.Rows
section
variable {prog:Program} {w:World} {A:Around} {R:Result→Shared→Prop} {I S:Addr} {fp wr:List Addr} {P:Nat→Value→Prop} {St:Nat→Heap→Prop}
theorem Fz {n:Nat} (W:Walks prog w A.in1 I fp wr n P St) (hn:n=0) (hSf:S ∉ fp) {s:Shared} {c:Nat} {d:Value} (st:St 0 s.heap) (hS:s.heap.get? S=some { cls:=.type "list", data:=.seq #[] c })
  (fin : ∀ g t,(∀ b o,b ∉ wr→b ≠ S→s.heap.get? b=some o→g.get? b=some o)→R (.ok (.ret d)) { s with heap:=g,toks:=t }) :
  codeAny (model prog w) A (.builtin "min.loop" ⟨[.ref I,.none,.ref S],[(Str.ofString "default", d)]⟩) R s:=by
 subst hn
 have hSw:S ∉ wr:=fun z=>hSf (W.sub _ z)
 refine codeAny_builtin PySem.F.entry_min_loop ?_
 rw [Around.under_plainId PySem.F.plain_min_loop _]
 show wpAny _ A.in1 (seqItems? (.ref S) >>= _) _ _ s
 refine wpAny_bind (wpAny_seqItems hS rfl ?_)
 show wpAny _ A.in1 (tryCatch (pyNext (.ref I)) _ >>= _) _ _ s
 refine wpAny_bind (wpAny_tryCatch (W.done s _ _ st fun g t kk=>?_))
 refine wpAny_bind (wpAny_rule ?_)
 exact wpAny_pure (fin g t fun b o b1 _ q=>kk b o b1 q)
end
section
variable {prog:Program} {w:World} {A:Around} {E:Value→Shared→Prop} {s:Shared} {l:Addr}
theorem oM {d:Value} {zs:Array (Int × Tok)} {Q:Value→Shared→Prop} (hh:A.handled=none) (hl:s.heap.IsList l (intItems zs)) (h0:zs.size=0)
  (h : ∀ g t,(∀ b o,s.heap.get? b=some o→g.get? b=some o)→Q d { s with heap:=g,toks:=t }) :
  wpAny (model prog w) A (call (.builtin "min") [.ref l] [(Str.ofString "default", d)]) Q E s:=by
 have nm:(toString "min" ++ toString ".loop" : String) = "min.loop" := by decide
 refine PyProof.Rows.kmk_tree PySem.F.kind_min PySem.F.plain_min PySem.F.entry_min (vK _ _) ?_
 refine wpAny_bind (wpAny_of_eq (show Builtin.Builtins.bindParams "min" ["key", "default"] 0 ⟨[],[(Str.ofString "default", d)]⟩=pure [none,some d] from rfl) ?_)
 refine wpAny_bind (wpAny_pure (wpAny_bind (iter_intList hl fun s2 e st hfp hlI=>?_)))
 subst e
 refine wpAny_bind (wpAny_newObj_type ?_)
 rw [nm]
 have hz:(intItems zs).size=zs.size:=by simp [intItems]
 refine wpAny_pure ⟨plainId_quiet PySem.F.plain_min_loop _,Fz (Walks.list (A:=A.in1) hh _ l hlI (intItems zs)) (by rw [hz]; exact h0) (fun z=>Nat.lt_irrefl _ (hfp _ z))
  ⟨⟨_,Heap.get?_push_of_some _ (Heap.get?_push_size _ rfl),rfl,rfl⟩,(hl.push _).push _⟩ (Heap.get?_push_size _ rfl) fun g t k=>?_⟩
 refine h g t fun b o q=>k b o ?_ ?_ (Heap.get?_push_of_some _ (Heap.get?_push_of_some _ q))
 ·exact fun z=>absurd (Heap.lt_size q) (by rw [List.mem_singleton.mp z]; exact Nat.lt_irrefl _)
 ·refine Nat.ne_of_lt (Nat.lt_of_lt_of_le (Heap.lt_size q) ?_)
  rw [Heap.size_push]
  exact Nat.le_succ _
end
section
variable {X:Cx}
def HF (K:PySem.W.Frag) (ta:TA) (td:TE):TE:=fun σ H Q=>ta σ H fun vs H1=>td σ H1 fun x H2 => ∃ (p:Addr) (ns:List Int),vs=[.ref p]∧SqL K H2 p (ns.map V.int)∧((ns=[]∧Q x H2)∨(0 < ns.length ∧ ∀ M,rE M ns→Q (.int M) H2))
theorem Ff {a d:Expr} {ta:TA} {td:TE} {p pos kpos:Pos} (hc:X.calm=true) (hg:Gl X "min") (hm:X.mg "min" = none) (ha:PA X [a] ta) (hd:PE X d td)
  (hv:bootBuiltins "min" = some (.builtin "min"))
  (he:backTo pos (starEach [a] X.env)=(false,eval a X.env) :: backTo pos (starEach [] X.env):=by rfl) (hpl:(backTo pos (starEach [a] X.env)).any (·.1)=false:=by rfl)
  (hks:(backToKw pos (keywordEach [⟨some (Str.ofString "default"),d,kpos⟩] X.env)).filterMap (·.1)=[Str.ofString "default"]:=by rfl)
  (hall:(backToKw pos (keywordEach [⟨some (Str.ofString "default"),d,kpos⟩] X.env)).all (·.1.isSome)=true:=by rfl)
  (hkw:(backToKw pos (keywordEach [⟨some (Str.ofString "default"),d,kpos⟩] X.env)).any (·.1.isNone)=false:=by rfl) :
  PE X (.Call (.Name "min" p) [a] [⟨some (Str.ofString "default"),d,kpos⟩] pos) (HF X.K ta td):=by
 intro pins s σ H Q I h
 refine wpAny_Call_Name_kw (eO I hg hm hv ?_)
 refine PyProof.Rows.callWith_kw (thn (ha pos pins s σ H _ I h) fun us s1 ⟨vs,H1,I1,r1,q1⟩=>?_) he hpl hall hkw
 show wpAny _ _ (evalAll ((do let v ← eval d X.env; standAt pos; pure v) :: [])) _ _ s1
 refine wpAny_evalAll_cons (wpAny_bind (thn (hd pins s1 σ H1 _ I1 q1) fun dv s2 ⟨x,H2,I2,rd,q2⟩=>wpAny_bind (wpAny_standAt (wpAny_pure (wpAny_evalAll_nil ?_)))))
 obtain ⟨b,ns,rfl,hq,q⟩:=q2
 obtain ⟨u,rfl,rx⟩:=vals1 r1
 cases rx
 rw [hks]
 obtain ⟨its,r',pl,hz⟩:=I2.list hq
 have hi:=intsAre_of r'
 rcases q with ⟨rfl,q⟩ | ⟨hne,q⟩
 ·obtain ⟨qs,e⟩:=hi.allInts.items
  have e0:its=[]:=List.eq_nil_of_length_eq_zero (by rw [← r'.length]; rfl)
  have e1:qs.size=0:=by
   have hz:(intItems qs).size=qs.size:=by simp [intItems]
   rw [← hz,← e,e0]
   rfl
  refine oM (zs:=qs) (I.ok.hd hc) (by rw [← e]; exact pl.isList) e1 fun g t k=>?_
  exact ⟨x,H2,I2.kept (t':=t) k,rd,q⟩
 ·obtain ⟨qs,e⟩:=hi.allInts.items
  obtain ⟨hsz,hmn⟩:=rN hi e hne
  refine jd (zs:=qs) (I.ok.hd hc) (by rw [← e]; exact pl.isList) hsz fun v g t hv k=>?_
  obtain ⟨t',rfl⟩:=intItems_at hv
  exact ⟨.int _,H2,I2.kept (t':=t) k,⟨t',rfl⟩,q _ hmn⟩
end
end L2
namespace L2
open PySem PySem.Spec PyProof.Rows
section
variable {X:Cx}
end
end L2
set_option Elab.async false
set_option linter.all false
set_option maxRecDepth 100000
set_option maxHeartbeats 4000000
namespace Tw
def ahd (ns:List Int) (n:Nat):List Int:=(List.range (n + 1)).map fun k=>(ns.take (32 * k)).sum
theorem cU (ns:List Int) (n:Nat):(ahd ns n).length=n + 1:=by simp [ahd]
theorem nu {ns:List Int} {n k:Nat} (h:k≤n):(ahd ns n)[k]?=some (ns.take (32 * k)).sum:=by
 have:k < n + 1:=by omega
 simp [ahd,this]
def iy (bs:List Int) (k:Nat):Int:=((bs.take k).map fun b=>ones b 32).sum
theorem qt {bs:List Int} {k:Nat} {b:Int} (h:bs[k]?=some b):iy bs (k + 1)=iy bs k + ones b 32:=by
 unfold iy
 rw [List.take_add_one,h]
 simp [List.sum_append]
def fM (bs:List Int) (n:Nat):List Int:=(List.range (n + 1)).map (iy bs)
theorem uL (bs:List Int) (n:Nat):(fM bs n).length=n + 1:=by simp [fM]
theorem xX (bs:List Int) (n:Nat):fM bs (n + 1)=fM bs n ++ [iy bs (n + 1)]:=by
 unfold fM
 rw [List.range_succ,List.map_append]
 rfl
theorem yw (bs:List Int) (n:Nat):fM bs n=(List.range n).map (iy bs) ++ [iy bs n]:=by
 unfold fM
 rw [List.range_succ,List.map_append]
 rfl
theorem n6 {ns:List Int} (h:aU ns) : ∀ k:Nat,k≤many ns.length→iy (cJ ns) k=(ns.take (32 * k)).sum
 | 0,_=>by simp [iy]
 | k + 1,hk=>by
  rw [qt (gn (by omega)),n6 h k (by omega),lE h k 32 (by omega)]
  rfl
theorem wX {ns:List Int} (h:aU ns):fM (cJ ns) (cJ ns).length=ahd ns (many ns.length):=by
 rw [bA]
 unfold fM ahd
 refine List.map_congr_left fun k hk=>?_
 have:=List.mem_range.mp hk
 exact n6 h k (by omega)
def wide (n j:Nat):Nat:=min 32 (n - 32 * j)
def m7 (ns:List Int) (j:Nat) (m:Int):Prop:=(∃ k,32 * j < k∧k≤32 * j + 32∧k≤ns.length∧m=ht ns k) ∧ ∀ k,32 * j < k→k≤32 * j + 32→k≤ns.length→m≤ht ns k
theorem m7.of {ns:List Int} (h:aU ns) {j:Nat} {M:Int} (hM:M∈nets (bK ns j) (wide ns.length j)) (hle : ∀ a∈nets (bK ns j) (wide ns.length j),M≤a):m7 ns j (ht ns (32 * j) + M):=by
 unfold wide at *
 constructor
 ·obtain ⟨k,k1,k2,rfl⟩:=yX.mp hM
  refine ⟨32 * j + k,by omega,by omega,by omega,?_⟩
  rw [iW h j k (by omega)]
 ·intro k k1 k2 k3
  have:=hle _ (yX.mpr ⟨k - 32 * j,by omega,by omega,rfl⟩)
  have e:=iW h j (k - 32 * j) (by omega)
  rw [show 32 * j + (k - 32 * j)=k from by omega] at e
  omega
theorem m7.uniq {ns:List Int} {j:Nat} {m m':Int} (h:m7 ns j m) (h':m7 ns j m'):m=m':=by
 obtain ⟨⟨k,a1,a2,a3,rfl⟩,h2⟩:=h
 obtain ⟨⟨k',b1,b2,b3,rfl⟩,h3⟩:=h'
 have:=h2 k' b1 b2 b3
 have:=h3 k a1 a2 a3
 omega
structure lL (ns ls:List Int):Prop where
 len:ls.length=many ns.length
 low : ∀ j m,ls[j]?=some m→m7 ns j m
theorem lL.uniq {ns ls ms:List Int} (h:lL ns ls) (h':lL ns ms):ls=ms:=by
 refine List.ext_getElem? fun j=>?_
 by_cases hj:j < many ns.length
 ·have j1:j < ls.length:=by have:=h.len; omega
  have j2:j < ms.length:=by have:=h'.len; omega
  have e1:ls[j]?=some ls[j]:=List.getElem?_eq_getElem j1
  have e2:ms[j]?=some ms[j]:=List.getElem?_eq_getElem j2
  rw [e1,e2,(h.low _ _ e1).uniq (h'.low _ _ e2)]
 ·rw [List.getElem?_eq_none (by have:=h.len; omega),List.getElem?_eq_none (by have:=h'.len; omega)]
theorem Tree.pos {ns:List Int} (t:Tree ns) {k:Nat} (h:k≤ns.length):0≤ht ns k:=by
 obtain ⟨t1,t2,t3⟩:=t
 rcases Nat.eq_zero_or_pos k with rfl | h0
 ·rw [eU]
  decide
 rcases Nat.lt_or_ge k ns.length with q | q
 ·have:=t3 k h0 q
  omega
 ·have:k=ns.length:=by omega
  rw [this,t2]
  decide
end Tw
set_option Elab.async false
set_option linter.all false
set_option maxRecDepth 100000
set_option maxHeartbeats 4000000
namespace Tw
def ux (ns:List Int) (a b:Nat) (m:Int):Prop:=(∃ k,a < k∧k≤b∧m=ht ns k) ∧ ∀ k,a < k→k≤b→m≤ht ns k
theorem ux.join2 {ns:List Int} {a b c:Nat} {m n:Int} (h:ux ns a b m) (k:ux ns b c n) (hab:a≤b) (hbc:b≤c) {M:Int} (hM:M=m∨M=n) (h1:M≤m) (h2:M≤n):ux ns a c M:=by
 obtain ⟨⟨x,x1,x2,ex⟩,hx⟩:=h
 obtain ⟨⟨y,y1,y2,ey⟩,hy⟩:=k
 refine ⟨?_,fun z z1 z2=>?_⟩
 ·rcases hM with e | e
  ·exact ⟨x,x1,by omega,by omega⟩
  ·exact ⟨y,by omega,y2,by omega⟩
 ·rcases Nat.lt_or_ge b z with q | q
  ·have:=hy z q z2
   omega
  ·have:=hx z z1 q
   omega
theorem lL.minH {ns ls:List Int} (h:lL ns ls) {i j:Nat} {m:Int} (hij:i < j) (hj:32 * j≤ns.length) (h1 : ∃ t,i≤t∧t < j∧ls[t]?=some m) (h2 : ∀ t c,i≤t→t < j→ls[t]?=some c→m≤c):ux ns (32 * i) (32 * j) m:=by
 constructor
 ·obtain ⟨t,t1,t2,e⟩:=h1
  obtain ⟨⟨k,k1,k2,k3,ek⟩,_⟩:=h.low t m e
  exact ⟨k,by omega,by omega,ek⟩
 ·intro k k1 k2
  have hl:=h.len
  have ht:(k - 1) / 32 < ls.length:=by
   rw [hl]
   unfold many
   omega
  have e:=List.getElem?_eq_getElem ht
  have a1:=h2 ((k - 1) / 32) _ (by omega) (by omega) e
  have a2:=(h.low _ _ e).2 k (by omega) (by omega) (by omega)
  omega
def dJ (ns:List Int) (a b:Nat) (g:Int) (k:Nat):Prop:=a < k∧k≤b∧ht ns k≤g ∧ ∀ i,a < i→i < k→g < ht ns i
def iG (ns:List Int) (a b:Nat) (g:Int) (k:Nat):Prop:=a < k∧k≤b∧ht ns k≤g ∧ ∀ i,k < i→i≤b→g < ht ns i
def cF (ns:List Int) (a b:Nat) (g:Int):Prop := ∀ i,a < i→i≤b→g < ht ns i
theorem oE {ns:List Int} (h:aU ns) {j st sp k:Nat} {g:Int} (hsp:sp≤32):Due (bK ns j) st sp (g - ht ns (32 * j)) k ↔ st < k∧k≤sp∧ht ns (32 * j + k)≤g:=by
 unfold Due
 constructor
 ·rintro ⟨a,b,c⟩
  have:=iW h j k (by omega)
  exact ⟨a,b,by omega⟩
 ·rintro ⟨a,b,c⟩
  have:=iW h j k (by omega)
  exact ⟨a,b,by omega⟩
theorem first_within {ns:List Int} (h:aU ns) {j st sp k:Nat} {g:Int} (hsp:sp≤32) (hd:Due (bK ns j) st sp (g - ht ns (32 * j)) k) (hm : ∀ i,Due (bK ns j) st sp (g - ht ns (32 * j)) i→k≤i):dJ ns (32 * j + st) (32 * j + sp) g (32 * j + k):=by
 obtain ⟨a,b,c⟩:=(oE h hsp).mp hd
 refine ⟨by omega,by omega,c,fun i i1 i2=>?_⟩
 rcases Int.lt_or_le g (ht ns i) with q | q
 ·exact q
 ·have:=hm (i - 32 * j) ((oE h hsp).mpr ⟨by omega,by omega,by rw [show 32 * j + (i - 32 * j)=i from by omega]; exact q⟩)
  omega
theorem last_within {ns:List Int} (h:aU ns) {j st sp k:Nat} {g:Int} (hsp:sp≤32) (hd:Due (bK ns j) st sp (g - ht ns (32 * j)) k) (hm : ∀ i,Due (bK ns j) st sp (g - ht ns (32 * j)) i→i≤k):iG ns (32 * j + st) (32 * j + sp) g (32 * j + k):=by
 obtain ⟨a,b,c⟩:=(oE h hsp).mp hd
 refine ⟨by omega,by omega,c,fun i i1 i2=>?_⟩
 rcases Int.lt_or_le g (ht ns i) with q | q
 ·exact q
 ·have:=hm (i - 32 * j) ((oE h hsp).mpr ⟨by omega,by omega,by rw [show 32 * j + (i - 32 * j)=i from by omega]; exact q⟩)
  omega
theorem qw {ns:List Int} (h:aU ns) {j st sp:Nat} {g:Int} (hsp:sp≤32) (hm : ∀ i,¬ Due (bK ns j) st sp (g - ht ns (32 * j)) i):cF ns (32 * j + st) (32 * j + sp) g:=fun i i1 i2=>by
 rcases Int.lt_or_le g (ht ns i) with q | q
 ·exact q
 ·exact absurd ((oE h hsp).mpr ⟨by omega,by omega,by rw [show 32 * j + (i - 32 * j)=i from by omega]; exact q⟩) (hm (i - 32 * j))
theorem cF.join {ns:List Int} {a b c:Nat} {g:Int} (h:cF ns a b g) (k:cF ns b c g):cF ns a c g:=fun i i1 i2=>by
 rcases Nat.lt_or_ge b i with q | q
 ·exact k i q i2
 ·exact h i i1 q
theorem cF.empty {ns:List Int} {a b:Nat} {g:Int} (h:b≤a):cF ns a b g:=fun i i1 i2=>by omega
theorem lL.none {ns ls:List Int} (h:lL ns ls) {i j:Nat} {g:Int} (h2 : ∀ t c,i≤t→t < j→ls[t]?=some c→g < c) {b:Nat} (hb:b≤32 * j) (hn:b≤ns.length):cF ns (32 * i) b g:=fun k k1 k2=>by
 have hl:=h.len
 have ht:(k - 1) / 32 < ls.length:=by
  rw [hl]
  unfold many
  omega
 have e:=List.getElem?_eq_getElem ht
 have a1:=h2 ((k - 1) / 32) _ (by omega) (by omega) e
 have a2:=(h.low _ _ e).2 k (by omega) (by omega) (by omega)
 omega
theorem lL.some {ns ls:List Int} (h:lL ns ls) {t:Nat} {c g:Int} (e:ls[t]?=.some c) (hc:c≤g) : ¬ cF ns (32 * t) (min (32 * t + 32) ns.length) g:=fun z=>by
 obtain ⟨⟨k,k1,k2,k3,ek⟩,_⟩:=h.low t c e
 have:=z k k1 (by omega)
 omega
theorem dJ.after {ns:List Int} {a b c k:Nat} {g:Int} (h:cF ns a b g) (f:dJ ns b c g k) (hab:a≤b):dJ ns a c g k:=by
 obtain ⟨f1,f2,f3,f4⟩:=f
 refine ⟨by omega,f2,f3,fun i i1 i2=>?_⟩
 rcases Nat.lt_or_ge b i with q | q
 ·exact f4 i q i2
 ·exact h i i1 q
theorem dJ.wider {ns:List Int} {a b c k:Nat} {g:Int} (f:dJ ns a b g k) (h:b≤c):dJ ns a c g k:=⟨f.1,by have:=f.2.1; omega,f.2.2⟩
theorem iG.ahead {ns:List Int} {a b c k:Nat} {g:Int} (h:cF ns b c g) (f:iG ns a b g k) (hbc:b≤c):iG ns a c g k:=by
 obtain ⟨f1,f2,f3,f4⟩:=f
 refine ⟨f1,by omega,f3,fun i i1 i2=>?_⟩
 rcases Nat.lt_or_ge b i with q | q
 ·exact h i q i2
 ·exact f4 i i1 q
theorem iG.wider {ns:List Int} {a a' b k:Nat} {g:Int} (f:iG ns a b g k) (h:a'≤a):iG ns a' b g k:=⟨by have:=f.1; omega,f.2⟩
def oZ (ns:List Int) (b:Nat) (g:Int) (k:Nat):Prop:=k < b∧ht ns k≤g ∧ ∀ i,k < i→i < b→g < ht ns i
def Eh (ns:List Int) (b:Nat) (g:Int):Prop := ∀ i,i < b→g < ht ns i
theorem Aw {ns:List Int} (h:aU ns) {k:Nat} (hk:k < ns.length):(ns[k]?=some 1∧ht ns (k + 1)=ht ns k + 1)∨(ns[k]?=some 0∧ht ns (k + 1)=ht ns k - 1):=by
 have e:=List.getElem?_eq_getElem hk
 rcases h _ (List.getElem_mem hk) with z | z
 ·right
  rw [z] at e
  exact ⟨e,by rw [dC e]; omega⟩
 ·left
  rw [z] at e
  exact ⟨e,by rw [dC e]; omega⟩
end Tw
set_option Elab.async false
set_option linter.all false
set_option maxRecDepth 100000
set_option maxHeartbeats 4000000
namespace L2
open PySem PySem.Spec PyProof.Rows
structure xj (X:Cx) (x z:Str) (caps:List (Str × Nat)) (scope:Scope) (cl:List (Str × Addr)):Prop where
 o:fj X x caps scope cl
 hz:scope.names.lookup z=some .local
 nd:(x :: z :: caps.map (·.1)).Nodup
section
variable {X:Cx} {pins:List (Addr × Obj)} {σ:St} {H:Hp} {s:Shared}
theorem Inv.comp2 {x z:Str} {caps:List (Str × Nat)} {scope:Scope} {cl:List (Str × Addr)} {fp:List Addr} {h':Heap} {tk:Nat} {m:Str→Option Value} {D C:Addr} (I:Inv X pins σ H s) (K0:xj X x z caps scope cl) (hf : ∀ b∈fp,jq X pins H b)
    (hfs : ∀ b∈fp,b < s.heap.objs.size) (hD:s.heap.objs.size≤D) (hC:s.heap.objs.size≤C) (hDC:D ≠ C) (hk : ∀ b o,s.heap.get? b=some o→h'.get? b=some o) (hn:h'.Ns C m) (hL:h'.get? D=some { cls:=.type "list", data:=.seq #[] }) :
    Inv (bM X (x :: z :: caps.map (·.1)) scope cl C s H fp) [] (none :: none :: gh caps σ) (upd H D (.lst [])) { s with heap:=h',toks:=tk }:=by
  have hnD:=I.hok.fresh hD
  have hnC:=I.hok.fresh hC
  have lkc : ∀ y c,(bM X (x :: z :: caps.map (·.1)) scope cl C s H fp).env.cells.lookup y=some c→X.env.cells.lookup y=some c:=fun y c e=>K0.o.cls y c e
  have clt : ∀ y c,X.env.cells.lookup y=some c→c < s.heap.objs.size:=fun y c e=>by
    obtain ⟨v,q⟩:=I.cell y c e
    exact q.lt
  have up : ∀ b u,H b=some u→upd H D (.lst []) b=some u:=fun b u q=>by rw [aJ (aN q hnD)]; exact q
  have ok:(bM X (x :: z :: caps.map (·.1)) scope cl C s H fp).Ok:=by
    refine ⟨I.ok.mod,K0.o.kind,I.ok.glob,I.ok.blt,hC,fun y z c h1 h2=>I.ok.inj y z c (lkc y c h1) (lkc z c h2),fun y hy=>K0.o.has y hy,fun y c h=>absurd (show false=true from h) Bool.false_ne_true,I.ok.hd,I.ok.frames,.inl rfl,fun b hb=>?_,I.bs,Nat.le_trans I.ok.bsz I.sz,fun b o e hb=>?_,fun b hb hz=>?_,I.stack,I.stkFree⟩
    · obtain ⟨f0,f1,f2,f3,f4,f5⟩:=hf b hb
      exact ⟨Nat.ne_of_lt (Nat.lt_of_lt_of_le (hfs b hb) hC),fun y c e=>f4 y c (lkc y c e)⟩
    · obtain ⟨f0,f1,f2,f3,f4,f5⟩:=hf b hb
      rcases f3 with z | z
      · exact I.ok.noex b o e z
      · exact absurd (Nat.lt_of_lt_of_le (Nat.lt_of_lt_of_le (Heap.lt_size e) I.ok.bsz) z) (Nat.lt_irrefl _)
    · obtain ⟨f0,f1,f2,f3,f4,f5⟩:=hf b hb
      rcases List.mem_cons.mp (I.stkSub b hz) with z | z
      · exact f1 z
      · exact f2 z
  refine ⟨ok,rfl,I.bare,?_,⟨m,hn,fun i y v e1 e2 e3=>?_⟩,fun y c e=>?_,?_,fun y c e=>?_,fun p hp=>absurd (show p∈([]:List (Addr × Obj)) from hp) (by simp),?_,?_⟩
  · exact Un.laid hk hD hnD
  · cases i with
    | zero=>cases e2
    | succ i =>
     cases i with
     | zero=>cases e2
     | succ i =>
      have e1':(caps.map (·.1))[i]?=some y:=e1
      have e2':(gh caps σ)[i]?=some (some v):=e2
      rw [List.getElem?_map] at e1'
      unfold gh at e2'
      rw [List.getElem?_map] at e2'
      cases ec:caps[i]? with
      | none=>rw [ec] at e1'; cases e1'
      | some p =>
        rw [ec] at e1' e2'
        obtain ⟨y',j⟩:=p
        have ey:y'=y:=Option.some.inj e1'
        subst ey
        have ev:(σ[j]?).getD none=some v:=Option.some.inj e2'
        have ev':σ[j]?=some (some v):=by
          cases q:σ[j]? with
          | none=>rw [q] at ev; cases ev
          | some w=>rw [q] at ev; exact congrArg some ev
        obtain ⟨c1,c2,c3⟩:=K0.o.cap y' j (List.mem_of_getElem? ec)
        obtain ⟨m0,hn0,hl⟩:=I.loc
        obtain ⟨u,r,l⟩:=hl j y' v c1 ev' (by rcases c2 with z | z; exact .inr (.inl z); exact .inr (.inr z))
        refine ⟨u,r,.inr ⟨c3,?_⟩⟩
        rcases l with ⟨k,_⟩ | ⟨k,c,ec,z⟩
        · have k':X.env.scope.names.lookup y'=some .local:=k
          rcases c2 with z | z
          · rw [z] at k'; cases k'
          · rw [z] at k'; cases k'
        · obtain ⟨c',hc'⟩:=K0.o.has y' c3
          have e4:=K0.o.cls y' c' hc'
          rw [ec] at e4
          cases e4
          obtain ⟨o,ho,hd⟩:=z
          exact ⟨c,hc',o,hk _ _ ho,hd⟩
  · obtain ⟨v,o,ho,hd⟩:=I.cell y c (lkc y c e)
    exact ⟨v,o,hk _ _ ho,hd⟩
  · show upd H D (.lst []) C=none
    rw [aJ (Ne.symm hDC)]
    exact hnC
  · have hlt:=clt y c (lkc y c e)
    rw [aJ (Nat.ne_of_lt (Nat.lt_of_lt_of_le hlt hD))]
    exact I.freeC y c (lkc y c e)
  · exact I.hok.laid hk hD ⟨Nat.zero_le _,[],_,.nil,hL⟩
  · show (none :: none :: gh caps σ).length=(x :: z :: caps.map (·.1)).length
    simp [qm]
def xm (K:PySem.W.Frag) (J:It) (cap:St) (te:TE) (Qf:Addr→Hp→Prop) (H:Hp):Prop :=
 ∀ D,H D=none → ∃ W:Nat→Nat→List V→Hp→Prop,(∃ m,W 0 m [] (upd H D (.lst []))) ∧ ∀ i m ys H1,W i m ys H1 →
  (J.stop i H1∧Qf D H1)∨(J.go i H1 ∧ ∀ v H2,J.yld i H1 v H2 → ∃ ta v1 v2,v=.ref ta∧SqT K H2 ta [v1,v2] ∧
   te (some v1 :: some v2 :: cap) H2 fun y H4=>H4 D=some (.lst ys)∧ys.length < sizeLine ∧ ∃ m',m' < m∧W (i + 1) m' (ys ++ [y]) (upd H4 D (.lst (ys ++ [y]))))
theorem Ah {x z:Str} {px pz tp pos:Pos} {tx:Nat} {caps:List (Str × Nat)} {scope:Scope} {cl:List (Str × Addr)} {elt iter:Expr} {J:It} {fp:List Addr} {it:Addr} {tn:Nat→Heap→Prop} {te:TE} {Qf:Addr→Hp→Prop}
  {RR:Value→Addr→Result→Shared→Prop} {E:Value→Shared→Prop} (I:Inv X pins σ H s) (hc:X.calm=true) (K0:xj X x z caps scope cl) (T:Turn X.prog X.w X.K (.Tuple [.Name x px,.Name z pz] tx tp) J fp it tn) (st:tn 0 s.heap) (hf : ∀ b∈fp,jq X pins H b)
  (he : ∀ C s1 H1 fp1,PE (bM X (x :: z :: caps.map (·.1)) scope cl C s1 H1 fp1) elt te) (rd:xm X.K J (gh caps σ) te Qf H)
  (hRR : ∀ D C s' H' m,Inv X pins σ H' s'→s'.heap.Ns C m→jq X pins H' C→Qf D H'→RR (.ref D) C (.ok .next) s') :
  wpAny (model X.prog X.w) X.A (newList []) (fun acc s3=>wpAny (model X.prog X.w) X.A (newFunctionEnv scope X.env.globals cl [] X.env.qual none .none (some X.env)) (fun cenv s4 =>
   codeAny (model X.prog X.w) X.A (.compStart (.ListComp elt [⟨.Tuple [.Name x px,.Name z pz] tx tp,iter,[],0⟩] scope pos) 0 (.ref it) acc { cenv with scope:=relabel scope X.env }) (RR acc cenv.locals) s4) E s3) E s:=by
 have hfs : ∀ b∈fp,b < s.heap.objs.size:=fun b hb=>by
  obtain ⟨o,e,_⟩:=T.obj _ _ st b hb
  exact Heap.lt_size e
 refine wpAny_newObj_type (wpAny_newFunctionEnv K0.o.nocell (by intro y hy; simp at hy) (fun h1 hn1 hb1=>?_) K0.o.kind)
 dsimp only at hn1 hb1 ⊢
 obtain ⟨D,eD⟩ : ∃ D:Nat,D=s.heap.objs.size:=⟨_,rfl⟩
 obtain ⟨H2,eH2⟩ : ∃ g,g=s.heap.push { cls:=.type "list", dict:=none,data:=.seq ([]:List Value).toArray }:=⟨_,rfl⟩
 rw [← eH2] at hn1 hb1 ⊢
 rw [← eD]
 have hC:H2.objs.size=D + 1:=by rw [eH2,Heap.size_push,eD]
 have hle:s.heap.objs.size≤H2.objs.size:=by rw [hC,eD]; exact Nat.le_succ _
 have hDC:D ≠ H2.objs.size:=by rw [hC]; exact Nat.ne_of_lt (Nat.lt_succ_self _)
 have hk : ∀ b o,s.heap.get? b=some o→h1.get? b=some o:=fun b o e=>by
  refine hb1.extBut b o (Nat.ne_of_lt (Nat.lt_of_lt_of_le (Heap.lt_size e) hle)) (Heap.get?_push_of_some _ ?_)
  rw [eH2]
  exact Heap.get?_push_of_some _ e
 have hL:h1.get? D=some { cls:=.type "list", data:=.seq #[] }:=by
  refine hb1.extBut D _ (by omega) (Heap.get?_push_of_some _ ?_)
  rw [eH2,eD]
  exact Heap.get?_push_size _ rfl
 have st1:tn 0 h1:=T.keep _ _ _ st fun b _ o e=>hk b o e
 obtain ⟨W,⟨m0,w0⟩,turn⟩:=rd D (I.hok.fresh (by omega))
 have loop:codeAny (model X.prog X.w) X.A (.compLoop (.ListComp elt [⟨.Tuple [.Name x px,.Name z pz] tx tp,iter,[],0⟩] scope pos) 0 (.ref it) (.ref D) (compEnvC scope cl H2.objs.size X.env)) (RR (.ref D) H2.objs.size) { s with heap:=h1,toks:=s.toks + ([]:List (Str × Value)).length }:=by
  refine LCp.codeAny_compLoop_pair (fun n s' => ∃ i ys sl sm H',Inv (bM X (x :: z :: caps.map (·.1)) scope cl H2.objs.size s H fp) [] (sl :: sm :: gh caps σ) H' s'∧tn i s'.heap∧(∀ b∈fp,H' b=none)∧W i n ys H') ?_ m0
   ⟨0,[],none,none,_,I.comp2 K0 hf hfs (by omega) (by omega) hDC hk hn1 hL,st1,fun b hb=>?_,w0⟩
  ·rintro n s3 ⟨i,ys,sl,sm,H3,I3,st3,fr3,w3⟩
   have fpc : ∀ {H':Hp} {pi:List (Addr × Obj)},(∀ b∈fp,H' b=none)→(∀ p∈pi,p.1 ∉ fp) → ∀ b∈fp,jq (bM X (x :: z :: caps.map (·.1)) scope cl H2.objs.size s H fp) pi H' b:=fun {H' pi} hn hp b hb=>by
    obtain ⟨f0,f1,f2,f3,f4,f5⟩:=hf b hb
    refine ⟨hn b hb,?_,fun z=>?_,.inl hb,fun y c e=>f4 y c (K0.o.cls y c e),fun p hpp z=>?_⟩
    ·exact Nat.ne_of_lt (Nat.lt_of_lt_of_le (hfs b hb) hle)
    ·rcases List.mem_cons.mp (I.stkSub b z) with q | q
     ·exact f1 q
     ·exact f2 q
    ·exact hp p (by simpa [bM] using hpp) (by rw [z]; exact hb)
   have clear : ∀ {α:Type} {t:Sem α} {Q:α→Shared→Prop} {E':Value→Shared→Prop} {s:Shared},wpAny (model X.prog X.w) X.A t Q (fun _ _=>False) s→wpAny (model X.prog X.w) X.A t Q E' s:=fun h=>wpAny_mono h (fun _ _ z=>z) fun _ _ z=>z.elim
   rcases turn i n ys H3 w3 with ⟨stop,qf⟩ | ⟨go,step⟩
   ·refine thn (T.done (bM X (x :: z :: caps.map (·.1)) scope cl H2.objs.size s H fp) rfl rfl rfl hc i [] s3 _ H3 _ I3 (fpc fr3 (by simp)) st3 stop) fun r s4 ⟨hr,I4⟩=>?_
    subst hr
    obtain ⟨m4,hn4,_⟩:=id I4.loc
    refine hRR D _ s4 H3 m4 (I.comped hf I4) hn4 ?_ qf
    have gC:s.heap.objs.size≤H2.objs.size:=by omega
    exact I.fpOk gC I4.free
   ·refine clear (thn (T.item (bM X (x :: z :: caps.map (·.1)) scope cl H2.objs.size s H fp) rfl rfl rfl hc i [] s3 _ H3 (fun _ _=>False) I3 (fpc fr3 (by simp)) st3 go) fun r s4 ⟨u,hr,h4⟩=>?_)
    subst hr
    refine clear (thn h4 fun _ s5 ⟨v,H5,I5,r5,y5,st5,fr5⟩=>?_)
    have I5':=I5.pinned (fpc fr5 (by simp)) (T.obj _ _ st5)
    obtain ⟨ta,v1,v2,ev,ht5,q6⟩:=step v _ y5
    subst ev
    have hg:PG (bM X (x :: z :: caps.map (·.1)) scope cl H2.objs.size s H fp) (.Tuple [.Name x px,.Name z pz] tx tp) (JR X.K 2 (Fi (vq 0) (Fi (vq 1) Jl))) :=
     ik hc (bw (aV (i:=0) K0.nd rfl (Or.inl (lookup_relabel_local K0.o.hx)) (Or.inr (lookup_relabel_local K0.o.hx))) (bw (aV (i:=1) K0.nd rfl (Or.inl (lookup_relabel_local K0.hz)) (Or.inr (lookup_relabel_local K0.hz))) fG))
    refine clear (thn (hg _ s5 (sl :: sm :: gh caps σ) H5 (.ref ta) u (fun σ2 H2=>σ2=some v1 :: some v2 :: gh caps σ∧H2=H5) I5' r5 ⟨ta,[v1,v2],rfl,ht5,rfl,v1,[v2],rfl,v2,[],rfl,rfl,(show _∧_ from ⟨rfl,rfl⟩)⟩) fun _ s6 ⟨σ6,H6,I6,e6,e7⟩=>?_)
    subst e6 e7
    have again : ∀ {H7:Hp} {s7:Shared} {sl sm:Option V} {zs:List V} {m':Nat},Inv (bM X (x :: z :: caps.map (·.1)) scope cl H2.objs.size s H fp) ([] ++ qe fp s5.heap) (sl :: sm :: gh caps σ) H7 s7→m' < n→W (i + 1) m' zs H7 →
      ∃ m,m < n ∧ ∃ i ys sl sm H',Inv (bM X (x :: z :: caps.map (·.1)) scope cl H2.objs.size s H fp) [] (sl :: sm :: gh caps σ) H' s7∧tn i s7.heap∧(∀ b∈fp,H' b=none)∧W i m ys H':=fun {H7 s7 sl sm zs m'} I7 hm w7=>by
     refine ⟨m',hm,i + 1,zs,sl,sm,H7,I7.unpinned,T.keep _ _ _ st5 fun b hb o e=>(I7.pin (b,o) (List.mem_append_right _ (List.mem_append_right _ (eZ hb e)))).1,fun b hb=>?_,w7⟩
     obtain ⟨o,e,d⟩:=T.obj _ _ st5 b hb
     exact (I7.pin (b,o) (List.mem_append_right _ (List.mem_append_right _ (eZ hb e)))).2.1
    refine clear (thn (he H2.objs.size s H fp _ s6 _ H6 _ I6 q6) fun xv s8 ⟨y,H8,I8,r8,hD8,hz8,m',hm,w8⟩=>?_)
    refine clear (thn (bH _ s8 _ H8 (.ref D) [y] (.ref D) [xv] (fun _ H9=>H9=upd H8 D (.lst (ys ++ [y]))) I8 rfl (.cons r8 .nil) ⟨D,ys,y,rfl,rfl,hD8,hz8,rfl⟩) fun _ s9 ⟨_,H9,I9,_,e9⟩=>?_)
    subst e9
    exact again I9 hm w8
  ·rw [aJ (by rw [eD]; exact Nat.ne_of_lt (hfs b hb))]
   exact (hf b hb).1
 exact codeAny_compStart_list loop (T.self _ 0 _ _ _ st1 loop)
def HJ (K:PySem.W.Frag) (wi:TI) (caps:List (Str × Nat)) (te:TE):TE:=fun σ H Q=>wi σ H fun J H1=>xm K J (gh caps σ) te (fun D H'=>Q (.ref D) H') H1
theorem xT {i:Nat} {y x z:Str} {px pz tp py pos spos:Pos} {tx:Nat} {caps:List (Str × Nat)} {scope:Scope} {cl:List (Str × Addr)} {elt iter:Expr} {wi:TI} {te:TE} (hN:X.N.Nodup) (hiN:X.N[i]?=some y) (hy:X.env.scope.names.lookup y=some .local) (hc:X.calm=true)
  (K0:xj X x z caps scope cl) (hi:PI X (.Tuple [.Name x px,.Name z pz] tx tp) iter wi)
  (he : ∀ C s1 H1 fp1,PE (bM X (x :: z :: caps.map (·.1)) scope cl C s1 H1 fp1) elt te)
  (hsw:swapsWith (.ListComp elt [⟨.Tuple [.Name x px,.Name z pz] tx tp,iter,[],0⟩] scope pos) (some (.Name y py)) spos.line X.env=pure true:=by rfl) (hs : ∀ x,foldedSetIterable iter X.env x=pure x:=by intro _; rfl) :
  PS X (.Assign [.Name y py] (.ListComp elt [⟨.Tuple [.Name x px,.Name z pz] tx tp,iter,[],0⟩] scope pos) spos) (Hw (HJ X.K wi caps te) (vq i)):=by
 intro pins s σ H D0 I h
 rw [exec_Assign_Name_used _ _ _ _ hsw]
 refine wpAny_bind (wpAny_standAt (wpAny_bind ?_))
 show wpAny _ X.A (do let _ ← comprehension (.ListComp elt [⟨.Tuple [.Name x px,.Name z pz] tx tp,iter,[],0⟩] scope pos) scope X.env _ (newList []) false (eval iter X.env) (some (assign (.Name y py) X.env))) _ _ s
 refine wpAny_bind (wpAny_mono (wpAny_comprehension_free (use:=some (assign (.Name y py) X.env)) (Q:=fun _ s'=>SP X pins D0 .next s') rfl hs K0.o.clos K0.o.kind K0.o.names
  (thn (hi pins s σ H _ I h) fun v s1 h1=>thn h1 fun itv s2 h2=>?_)) (fun _ s' hq=>wpAny_pure (wpAny_pure hq)) fun _ _ e=>e)
 obtain ⟨it,fp,tn,J,H2,e,I2,T,st2,f2,rd⟩:=h2
 subst e
 refine Ah (RR:=fun acc C=>compPost (model X.prog X.w) X.A X.xe (some (assign (.Name y py) X.env)) (fun _ s'=>SP X pins D0 .next s') acc C) I2 hc K0 T st2 f2 he rd ?_
 intro D C s' H' m I' hn fC q
 show wpAny _ X.A (assign (.Name y py) X.env (.ref D)) _ _ _
 refine wpAny_assign_Name (vg (v:=.ref D) I' hN hiN (.inl hy) rfl (fun s'' I'' ch=>⟨m,?_,fun h'' hs''=>?_⟩) (.inr hy))
 ·obtain ⟨a,sb,ha⟩:=ch
  refine hn.sameBut sb fun z=>?_
  rcases ha with ha | ha
  ·exact fC.2.1 (z.trans ha)
  ·exact fC.2.2.2.2.1 _ a ha z.symm
 ·exact ⟨_,H',I''.turned (h':=h'') (t':=s''.toks) (fun b o hb e=>hs''.extBut b o hb e) fC.1 fC.2.1 fC.2.2.2.1 fC.2.2.2.2.1 fC.2.2.2.2.2,q⟩
end
section
variable {X:Cx} {x:Str} {scope:Scope}
theorem fj.three {y z u:Str} {j k l:Nat} {c d e:Addr} (hyz:y ≠ z) (hyu:y ≠ u) (hzu:z ≠ u) (hNy:X.N[j]?=some y) (hNz:X.N[k]?=some z) (hNu:X.N[l]?=some u)
  (hXy:X.env.scope.names.lookup y=some .cell∨X.env.scope.names.lookup y=some .free) (hXz:X.env.scope.names.lookup z=some .cell∨X.env.scope.names.lookup z=some .free) (hXu:X.env.scope.names.lookup u=some .cell∨X.env.scope.names.lookup u=some .free)
  (ecy:X.env.cells.lookup y=some c) (ecz:X.env.cells.lookup z=some d) (ecu:X.env.cells.lookup u=some e) (clos:closureFor scope X.env=pure [(y,c),(z,d),(u,e)])
  (hry:(relabel scope X.env).names.lookup y=some .cell∨(relabel scope X.env).names.lookup y=some .free) (hrz:(relabel scope X.env).names.lookup z=some .cell∨(relabel scope X.env).names.lookup z=some .free) (hru:(relabel scope X.env).names.lookup u=some .cell∨(relabel scope X.env).names.lookup u=some .free)
  (hfree : ∀ v∈scope.names,v.2=.free→v.1=y∨v.1=z∨v.1=u:=by decide) (nocell : ∀ y∈scope.names,y.2 ≠ .cell:=by decide) (kind:scope.kind=.function:=by rfl) (names : ∀ y∈scope.names,y.2=.local→scope.names.lookup y.1=some .local:=by decide)
  (hx:scope.names.lookup x=some .local:=by rfl) (nd:[x,y,z,u].Nodup:=by decide):fj X x [(y,j),(z,k),(u,l)] scope [(y,c),(z,d),(u,e)]:=by
 have zy:(z == y)=false:=by simpa using Ne.symm hyz
 have uy:(u == y)=false:=by simpa using Ne.symm hyu
 have uz:(u == z)=false:=by simpa using Ne.symm hzu
 have ly:([(y,c),(z,d),(u,e)]:List (Str × Addr)).lookup y=some c:=by simp
 have lz:([(y,c),(z,d),(u,e)]:List (Str × Addr)).lookup z=some d:=by simp [List.lookup,zy]
 have lu:([(y,c),(z,d),(u,e)]:List (Str × Addr)).lookup u=some e:=by simp [List.lookup,uy,uz]
 refine ⟨kind,nocell,names,hx,clos,fun v f he=>?_,fun v hv=>?_,nd,fun v i h=>?_⟩
 ·have hm:=PySem.mem_of_lookup he
  rcases List.mem_cons.mp hm with q | q
  ·cases q
   exact ecy
  rcases List.mem_cons.mp q with q | q
  ·cases q
   exact ecz
  ·cases List.mem_singleton.mp q
   exact ecu
 ·have hv':v=y∨v=z∨v=u:=by
   rcases hv with hv | hv
   all_goals
    obtain ⟨k0,hm,e⟩:=oh hv
    rcases e with e | ⟨e,_⟩
    ·subst e
     first | exact absurd rfl (nocell _ hm) | exact hfree _ hm rfl
    ·subst e
     exact hfree _ hm rfl
  rcases hv' with rfl | rfl | rfl
  ·exact ⟨c,ly⟩
  ·exact ⟨d,lz⟩
  ·exact ⟨e,lu⟩
 ·rcases List.mem_cons.mp h with q | q
  ·cases q
   exact ⟨hNy,hXy,hry⟩
  rcases List.mem_cons.mp q with q | q
  ·cases q
   exact ⟨hNz,hXz,hrz⟩
  ·cases List.mem_singleton.mp q
   exact ⟨hNu,hXu,hru⟩
end
end L2
namespace Tw
open PySem L2
theorem zX {K:PySem.W.Frag} {a:Addr} {ns:List Int} {cap:L2.St} {te:TE} {Qf:Addr→Hp→Prop} {H:Hp} (R:Nat→Int→Prop) (hS:SqL K H a (ns.map V.int)) (hl:ns.length < sizeLine)
  (hte : ∀ (i:Nat) (b:Int) (H':Hp) (Q:VK),ns[i]?=some b→aR H H'→(∀ m H2,R i m→aR H' H2→Q (.int m) H2)→te (some (.int (i:Int)) :: some (.int b) :: cap) H' Q)
  (q : ∀ D H' (ls:List Int),H D=none→aR H H'→H' D=some (.lst (ls.map V.int))→ls.length=ns.length→(∀ i m,ls[i]?=some m→R i m)→Qf D H'):xm K (Ite K a) cap te Qf H:=by
 intro D hD
 refine ⟨fun i m ys H1=>m=ns.length - i∧i≤ns.length∧aR H H1∧H1 D=some (.lst ys) ∧ ∃ ls:List Int,ys=ls.map V.int∧ls.length=i ∧ ∀ i m,ls[i]?=some m→R i m,⟨_,rfl,Nat.zero_le _,aA hD _,az,[],rfl,rfl,fun i m e=>by cases e⟩,?_⟩
 rintro i m ys H1 ⟨rfl,hi,sm,hD1,ls,rfl,hll,hR⟩
 have hS1:=sm.seq hS
 by_cases hlt:i < ns.length
 ·have hb:ns[i]?=some ns[i]:=List.getElem?_eq_getElem hlt
  have hg:(ns.map V.int)[i]?=some (.int ns[i]):=by
   rw [List.getElem?_map,hb]
   rfl
  refine .inr ⟨⟨_,_,hS1,hg⟩,fun v H2 y=>?_⟩
  obtain ⟨p,y,hp,rfl,rfl,e⟩:=y
  have e:=e _ hS1
  rw [hg] at e
  cases e
  have s2:=aA hp (.tup [.int (i:Int),.int ns[i]])
  refine ⟨p,_,_,rfl,SqT.of az,?_⟩
  refine hte i ns[i] _ _ hb (sm.trans s2) fun m H2 hm s3=>⟨s3 _ _ (s2 _ _ hD1),?_,ns.length - (i + 1),by omega,rfl,hlt,?_,az,ls ++ [m],?_,?_,?_⟩
  ·rw [List.length_map]
   omega
  ·exact bG (sm.trans (s2.trans s3)) hD _
  ·rw [List.map_append]
   rfl
  ·rw [List.length_append,hll]
   rfl
  ·intro j n e
   rcases Nat.lt_or_ge j ls.length with c | c
   ·rw [List.getElem?_append_left c] at e
    exact hR j n e
   ·rw [List.getElem?_append_right c] at e
    have:j - ls.length=0:=by
     have:=(List.getElem?_eq_some_iff.mp e).1
     simp at this
     omega
    rw [this] at e
    cases e
    have:j=i:=by omega
    subst this
    exact hm
 ·have e:i=ns.length:=by omega
  exact .inl ⟨⟨_,hS1,by rw [List.length_map,e]; exact Nat.le_refl _⟩,q D H1 ls hD sm hD1 (by omega) hR⟩
theorem DP {K:PySem.W.Frag} {a:Addr} {ns:List Int} {cap:L2.St} {tt:TT} {te:TE} {Qf:Addr→Hp→Prop} {H:Hp} (g:Int→Int) (hS:SqL K H a (ns.map V.int)) (hl:ns.length < sizeLine)
  (htt : ∀ (z:Int) (H':Hp) (Q:Bool→Hp→Prop),Q true H'→tt (some (.int z) :: cap) H' Q) (hte : ∀ (z:Int) (H':Hp) (Q:VK),z∈ns→aR H H'→Q (.int (g z)) H'→te (some (.int z) :: cap) H' Q)
  (q : ∀ D,H D=none→Qf D (upd H D (.lst ((ns.map g).map V.int)))):rK (Itl K a) cap tt te Qf H:=by
 intro D hD
 refine ⟨fun i m ys H1=>m=ns.length - i∧i≤ns.length∧ys=((ns.take i).map g).map V.int∧H1=upd H D (.lst ys),⟨_,rfl,Nat.zero_le _,rfl,rfl⟩,?_⟩
 rintro i m ys H1 ⟨rfl,hi,rfl,rfl⟩
 have hS1:SqL K (upd H D (.lst (((ns.take i).map g).map V.int))) a (ns.map V.int):=(aA hD _).seq hS
 by_cases hlt:i < ns.length
 ·have hg:(ns.map V.int)[i]?=some (.int ns[i]):=by
   rw [List.getElem?_map,List.getElem?_eq_getElem hlt]
   rfl
  refine .inr ⟨⟨_,_,hS1,hg⟩,fun v H2 y=>?_⟩
  obtain ⟨rfl,y⟩:=y
  have e:=y _ hS1
  rw [hg] at e
  cases e
  refine htt _ _ _ ?_
  rw [if_pos rfl]
  refine hte _ _ _ (List.getElem_mem hlt) (aA hD _) ⟨az,?_,ns.length - (i + 1),by omega,rfl,hlt,?_,?_⟩
  ·rw [List.length_map,List.length_map,List.length_take]
   omega
  ·rw [List.take_add_one,List.getElem?_eq_getElem hlt,List.map_append,List.map_append]
   rfl
  ·rw [w6]
 ·have e:i=ns.length:=by omega
  subst e
  rw [List.take_length]
  rw [List.take_length] at hS1
  exact .inl ⟨⟨_,hS1,by rw [List.length_map]; exact Nat.le_refl _⟩,q D hD⟩
end Tw
set_option Elab.async false
set_option linter.all false
set_option maxRecDepth 100000
set_option maxHeartbeats 4000000
namespace L2
open PySem PySem.Spec PyProof.Rows PySem.W
structure rM where
 qual:Str
 params:Arguments
 body:Expr
 scope:Scope
 ps:List Str
 xs:List Str
def lamOf (st:Stmt) (qual:Str) (ps xs:List Str):rM:=match st with
 | .Return (some (.Lambda a b sc _)) _=>⟨qual,a,b,sc,ps,xs⟩
 | _=>⟨qual,defArgs st,.Name "" ⟨0,0,0,0⟩,defScope st,ps,xs⟩
def jz:Stmt→Pos
 | .Return (some (.Lambda _ _ _ p)) _=>p
 | _=>⟨0,0,0,0⟩
structure lg (H:Hp) (f:Addr) (c:rM) (cs:List Addr) (fvs:List V):Prop where
 ex : ∃ (cd:Addr) (pm ctv:Value) (oc:Obj) (vs:Array Value) (t:Tok),H f=some (aP f (kla_obj "<lambda>" c.qual c.params c.body c.scope (c.xs.zip cs) pm cd ctv))∧H cd=some (aP cd oc)∧oc.data=.fields vs∧vs[1]?=some (.str c.qual t)
 cells : ∀ (i:Nat) (a:Addr),cs[i]?=some a → ∃ (co:Obj) (v:V) (u:Value),fvs[i]?=some v∧H a=some (aP a co)∧co.data=.cell (some u)∧RelV v u
 nd:cs.Nodup
 len:cs.length=c.xs.length
 lenV:fvs.length=c.xs.length
theorem lg.same {H H':Hp} {f:Addr} {c:rM} {cs:List Addr} {fvs:List V} (h:lg H f c cs fvs) (s : ∀ b o,H b=some (aP b o)→H' b=some (aP b o)):lg H' f c cs fvs:=by
 obtain ⟨⟨cd,pm,ctv,oc,vs,t,h1,h2,h3,h4⟩,hc,nd,len,lenV⟩:=h
 refine ⟨⟨cd,pm,ctv,oc,vs,t,s _ _ h1,s _ _ h2,h3,h4⟩,fun i a e=>?_,nd,len,lenV⟩
 obtain ⟨co,v,u,e1,e2,e3⟩:=hc i a e
 exact ⟨co,v,u,e1,s _ _ e2,e3⟩
structure tM (N:List Str) (c:rM):Prop where
 kind:c.scope.kind=.function
 co:c.scope.isCoroutine=false
 gen:c.scope.isGenerator=false
 nocell : ∀ x∈c.scope.names,x.2 ≠ .cell
 pre:N.take (c.ps.length + c.xs.length)=c.ps ++ c.xs
 nd:N.Nodup
 par : ∀ n∈c.ps,c.scope.names.lookup n=some .local
 fr : ∀ x∈c.scope.names,x.2=.free→x.1∈c.xs
 frn : ∀ n∈c.xs,c.scope.names.lookup n ≠ some .local
section
variable {P:Program} {w:World} {K:PySem.W.Frag} {mg:Str→Option Value} {base:Heap} {A:Around} {outer:List Env} {s:Shared} {H:Hp} {f:Addr} {c:rM} {cs:List Addr} {fvs vs:List V} {us:List Value} {N:List Str} {k:Nat} {Q:VK} {E:XK}
theorem GR (S:tM N c) (hr:dN (k + 1) A) (e0:Bf P w K mg base A outer s H) (ca:lg H f c cs fvs) (hb : ∀ (cl:List (Str × Addr)) (pm cd ctv:Value),bindArgs (kla_fn "<lambda>" c.qual c.params c.body c.scope cl pm cd ctv) ⟨us,[]⟩=pure (c.ps.zip us)) (r:Vals vs us) (hl:vs.length=c.ps.length)
  (body : ∀ cd:Addr,dN k (A.deeper (envX c.qual c.scope s.heap.objs.size f (.ref cd) (c.xs.zip cs))) → ∃ t,PE (qp P w K mg base N c.qual c.scope f (.ref cd) (c.xs.zip cs) A outer s (hide H cs)) c.body t∧t (start N (vs ++ fvs)) (hide H cs) fun v H'=>Q v (over H cs H')) :
  codeAny (model P w) A (.call (.ref f) ⟨us,[]⟩) (CR CX0 outer P w H s Q E) s:=by
 obtain ⟨⟨cd,pm,ctv,oc,ws,tk,h1,h2,h3,h4⟩,hc,nd,len,lenV⟩:=ca
 have hx : ∀ a∈cs,∃ o,H a=some (aP a o):=fun a ha=>by
  obtain ⟨i,hi⟩:=List.getElem?_of_mem ha
  obtain ⟨co,v,u,_,e,_⟩:=hc i a hi
  exact ⟨co,e⟩
 have lim:s.heap.NoLimit:=e0.mod.nolimit.keeps fun b o e=>(e0.bs b o e).1
 have ndP:c.ps.Nodup:=by
  have:c.ps.Sublist N:=by
   have h5:(c.ps ++ c.xs).Sublist N:=by rw [← S.pre]; exact List.take_sublist _ _
   exact (List.sublist_append_left _ _).trans h5
  exact S.nd.sublist this
 have ndX:c.xs.Nodup:=by
  have:c.xs.Sublist N:=by
   have h5:(c.ps ++ c.xs).Sublist N:=by rw [← S.pre]; exact List.take_sublist _ _
   exact (List.sublist_append_right _ _).trans h5
  exact S.nd.sublist this
 have hpl:c.ps.length + c.xs.length≤N.length:=by
  have:=congrArg List.length S.pre
  rw [List.length_take,List.length_append] at this
  omega
 refine kla_callFunE hr.depth (cX e0.hok h1) rfl S.co S.gen rfl ⟨cd,oc,ws,tk,rfl,cX e0.hok h2,h3,h4⟩ ?_
 rw [hb]
 refine wpAny_pure (wpAny_newFunctionEnv S.nocell (fun y hy=>S.par _ (List.of_mem_zip hy).1) (fun h0 hns hsb=>⟨lim.fresh _ hsb,?_⟩) S.kind)
 show codeAny _ _ (.expr c.body (envX c.qual c.scope s.heap.objs.size f (.ref cd) (c.xs.zip cs))) _ _
 have hk : ∀ b o,s.heap.get? b=some o→h0.get? b=some o:=fun b o e=>hsb.extBut b o (Nat.ne_of_lt (Heap.lt_size e)) (Heap.get?_push_of_some _ e)
 refine kla_codeExpr ?_
 obtain ⟨t,ht,hq⟩:=body cd (hr.deeper _)
 have hok0:=Bp e0.hok hx
 have I:Inv (qp P w K mg base N c.qual c.scope f (.ref cd) (c.xs.zip cs) A outer s (hide H cs)) [] (start N (vs ++ fvs)) (hide H cs) { s with heap:=h0,toks:=s.toks + (c.ps.zip us).length }:=by
  refine ⟨⟨e0.mod,S.kind,rfl,rfl,Nat.le_refl _,fun y z b h5 h6=>?_,fun y hy=>?_,fun y b h5 _=>absurd h5 Bool.false_ne_true,fun _=>hr.hd,Around.frames_deeper e0.frames,.inr ⟨rfl,rfl⟩,fun b z=>absurd (show b∈([]:List Addr) from z) (by simp),fun b o e=>⟨(e0.bs b o e).1,?_⟩,e0.bsz,fun b _ _ z=>absurd (show b∈([]:List Addr) from z) (by simp),fun b z=>absurd (show b∈([]:List Addr) from z) (by simp),e0.funs,fun b hb'=>?_⟩,
   rfl,e0.bare,Un.kept hk,⟨_,hns,fun i y v h5 h6 h7=>?_⟩,fun y b h5=>?_,hok0.fresh (Nat.le_refl _),fun y b h5=>?_,fun p hp=>absurd (show p∈([]:List (Addr × Obj)) from hp) (by simp),hok0.kept hk,?_⟩
  ·obtain ⟨i,i1,i2⟩:=cV h5
   obtain ⟨j,j1,j2⟩:=cV h6
   have:=(List.getElem?_inj (List.getElem?_eq_some_iff.mp i2).1 nd).mp (i2.trans j2.symm)
   subst this
   exact Option.some.inj (i1.symm.trans j1)
  ·have hy:c.scope.names.lookup y=some .cell∨c.scope.names.lookup y=some .free:=hy
   rcases hy with hy | hy
   ·exact absurd rfl (S.nocell _ (PySem.mem_of_lookup hy))
   ·exact wO len (S.fr _ (PySem.mem_of_lookup hy) rfl)
  ·have n:=(e0.bs b o e).2
   show hide H cs b=none
   rw [bF]
   ·exact n
   ·intro z
    obtain ⟨o',e'⟩:=hx b z
    rw [n] at e'
    cases e'
  ·have n:=e0.frf b hb'
   show hide H cs b=none
   rw [bF]
   ·exact n
   ·intro z
    obtain ⟨o',e'⟩:=hx b z
    rw [n] at e'
    cases e'
  ·have hi:i < (vs ++ fvs).length:=by
    unfold start at h6
    by_cases hi:i < (vs ++ fvs).length
    ·exact hi
    ·rw [List.getElem?_append_right (by simpa using hi)] at h6
     rw [List.getElem?_replicate] at h6
     split at h6 <;> cases h6
   have ha:(vs ++ fvs)[i]?=some v:=by
    unfold start at h6
    rw [List.getElem?_append_left (by simpa using hi),List.getElem?_map] at h6
    cases e:(vs ++ fvs)[i]? with
    | none=>rw [e] at h6; cases h6
    | some a=>rw [e] at h6; cases h6; rfl
   rw [List.length_append] at hi
   have hp:(c.ps ++ c.xs)[i]?=some y:=by
    rw [← S.pre,List.getElem?_take_of_lt (by omega)]
    exact h5
   by_cases hi2:i < vs.length
   ·rw [List.getElem?_append_left hi2] at ha
    rw [List.getElem?_append_left (by omega)] at hp
    obtain ⟨u,hu,rv⟩:=r.get ha
    exact ⟨u,rv,.inl ⟨S.par y (List.mem_of_getElem? hp),BW ndP hp hu⟩⟩
   ·rw [List.getElem?_append_right (by omega)] at ha
    rw [List.getElem?_append_right (by omega),← hl] at hp
    have hj:i - vs.length < cs.length:=by
     have:=(List.getElem?_eq_some_iff.mp hp).1
     omega
    obtain ⟨b,hb5⟩ : ∃ b,cs[i - vs.length]?=some b:=⟨_,List.getElem?_eq_getElem hj⟩
    obtain ⟨co,v',u,q1,q2,q3,q4⟩:=hc _ b hb5
    rw [ha] at q1
    cases q1
    have hfree:c.scope.names.lookup y=some .free:=by
     rcases h7 with q | q | q
     ·exact absurd q (S.frn y (List.mem_of_getElem? hp))
     ·exact absurd rfl (S.nocell _ (PySem.mem_of_lookup q))
     ·exact q
    exact ⟨u,q4,.inr ⟨.inr hfree,b,Ao ndX hp hb5,co,hk _ _ (cX e0.hok q2),q3⟩⟩
  ·obtain ⟨i,i1,i2⟩:=cV h5
   obtain ⟨co,v',u,q1,q2,q3,q4⟩:=hc _ b i2
   exact ⟨_,co,hk _ _ (cX e0.hok q2),q3⟩
  ·obtain ⟨i,i1,i2⟩:=cV h5
   exact lK (List.mem_of_getElem? i2)
  ·unfold start
   show _=N.length
   rw [List.length_append,List.length_map,List.length_replicate,List.length_append]
   omega
 have fin : ∀ {s':Shared} {σ':St} {H':Hp} {v:V} {u:Value},Inv (qp P w K mg base N c.qual c.scope f (.ref cd) (c.xs.zip cs) A outer s (hide H cs)) [] σ' H' s'→RelV v u→Q v (over H cs H')→CE outer P w H s Q u s':=fun {s' σ' H' v u} J rv q=>by
  obtain ⟨k1,k2⟩:=BV e0.hok J.hok hx e0.frf J.base
  exact ⟨v,over H cs H',J.os,J.bare,k2,k1,rv,q⟩
 refine wpAny_mono (ht [] _ (start N (vs ++ fvs)) (hide H cs) _ I hq) (fun u s' hs=>?_) fun e s' hs=>False.elim hs
 obtain ⟨v,H',J,rv,q⟩:=hs
 exact fin J rv q
end
section
variable {X:Cx} {pins:List (Addr × Obj)} {σ:St} {H:Hp} {s:Shared} {c P:Addr} {name qual:Str} {params:Arguments} {body:Expr} {scope:Scope} {clos:List (Str × Addr)} {pos:Pos} {n:Nat}
theorem Fb {M:Model} {A:Around} {E:Value→Shared→Prop} {Q:Value→Shared→Prop} (I:Inv X pins σ H s) (bm:BMain X.mg X.base) (hcode:X.env.code=.ref c) (C:CodeHd X.base c P) (hT:TabAt H P pos qual) (hcl:closureFor scope X.env=pure clos)
  (h : ∀ (fi cd:Addr) (pm ctv:Value) (oc:Obj) (vs:Array Value) (t:Tok) (H1:Hp) (s1:Shared),Inv X pins σ H1 s1→H fi=none→(∀ b o,H b=some o→b ≠ P→H1 b=some o)→TabAt H1 P pos qual →
   H1 fi=some (aP fi (kla_obj name qual params body scope clos pm cd ctv))→H1 cd=some (aP cd oc)→oc.data=.fields vs→vs[1]?=some (.str qual t)→Q (.ref fi) s1) :
  wpAny M A (makeFunction name qual params (.expr body) scope X.env [] [] [] pos n) Q E s:=by
 obtain ⟨ps,hP,htr,hcase⟩:=hT
 have hPs:s.heap.get? P=some (tabObj ps):=I.hok P _ hP
 have G:=I.mod.glob.keeps I.bk
 obtain ⟨bm,ob,b1,b2,b3,b4,b5,b6⟩:=bm
 have b3':=I.bk _ _ b3
 have hgP:mainGlobals ≠ P:=fun q=>by
  obtain ⟨o,es,ep,e,hd,_⟩:=G
  rw [q,hPs] at e; cases e; cases hd
 have hbP:bm ≠ P:=fun q=>by
  rw [q,hPs] at b3'; cases b3'; cases b4
 have hbG:bm ≠ mainGlobals:=fun q=>by
  obtain ⟨o,es,ep,e,hd,_⟩:=G
  rw [q,e] at b3'; cases b3'; rw [hd] at b6; cases b6
 have hbu:s.heap.BuiltinsAt X.mg P:=⟨bm,ob,b1,b2,hbG,hbP,b3',b4,b5,b6⟩
 rcases hcase with hnf | ⟨cd,oc,vs,t,hf,hcd,hd,hv⟩
 ·refine kla_makeFunction (mg:=X.mg) hcl I.ok.glob G hcode (C.keeps I.bk) hPs htr hnf hgP hbu fun c' ctv h' tk hx hge hlt hrec htb=>?_
  obtain ⟨c2,oc,vs,t,e2,hoc,hd,hv⟩:=hrec
  cases e2
  have nc:H c'=none:=I.hok.fresh hge
  have nf:H h'.objs.size=none:=I.hok.fresh (Nat.le_trans hge (Nat.le_of_lt hlt))
  have nPc:P ≠ c':=aN hP nc
  have nPf:P ≠ h'.objs.size:=aN hP nf
  have ncf:c' ≠ h'.objs.size:=Nat.ne_of_lt hlt
  have k1 : ∀ b,b ≠ P→b ≠ c'→b ≠ h'.objs.size→upd (upd (upd H P (.tbl (ps ++ #[rawInt pos.line,rawInt pos.col,.ref c']))) c' (aP c' oc)) h'.objs.size (aP h'.objs.size (kla_obj name qual params body scope clos ((X.mg "__name__").getD .none) c' ctv)) b=H b:=fun b e1 e2 e3=>by
   rw [aJ e3,aJ e2,aJ e1]
  have kS : ∀ b o,H b=some o→b ≠ P→upd (upd (upd H P (.tbl (ps ++ #[rawInt pos.line,rawInt pos.col,.ref c']))) c' (aP c' oc)) h'.objs.size (aP h'.objs.size (kla_obj name qual params body scope clos ((X.mg "__name__").getD .none) c' ctv)) b=some o:=fun b o e n=>by
   rw [k1 b n (aN e nc) (aN e nf)]
   exact e
  have kP:upd (upd (upd H P (.tbl (ps ++ #[rawInt pos.line,rawInt pos.col,.ref c']))) c' (aP c' oc)) h'.objs.size (aP h'.objs.size (kla_obj name qual params body scope clos ((X.mg "__name__").getD .none) c' ctv)) P=some (.tbl (ps ++ #[rawInt pos.line,rawInt pos.col,.ref c'])):=by
   rw [aJ nPf,aJ nPc,az]
  have kc:upd (upd (upd H P (.tbl (ps ++ #[rawInt pos.line,rawInt pos.col,.ref c']))) c' (aP c' oc)) h'.objs.size (aP h'.objs.size (kla_obj name qual params body scope clos ((X.mg "__name__").getD .none) c' ctv)) c'=some (aP c' oc):=by
   rw [aJ ncf,az]
  have kf:upd (upd (upd H P (.tbl (ps ++ #[rawInt pos.line,rawInt pos.col,.ref c']))) c' (aP c' oc)) h'.objs.size (aP h'.objs.size (kla_obj name qual params body scope clos ((X.mg "__name__").getD .none) c' ctv)) h'.objs.size=some (aP h'.objs.size (kla_obj name qual params body scope clos ((X.mg "__name__").getD .none) c' ctv)):=az
  generalize upd (upd (upd H P (.tbl (ps ++ #[rawInt pos.line,rawInt pos.col,.ref c']))) c' (aP c' oc)) h'.objs.size (aP h'.objs.size (kla_obj name qual params body scope clos ((X.mg "__name__").getD .none) c' ctv))=H1 at *
  have old : ∀ b o,s.heap.get? b=some o→b ≠ P→(h'.push (kla_obj name qual params body scope clos ((X.mg "__name__").getD .none) c' ctv)).get? b=some o:=fun b o e n=>Heap.get?_push_of_some _ (hx b o n e)
  have tabP:(h'.push (kla_obj name qual params body scope clos ((X.mg "__name__").getD .none) c' ctv)).get? P=some (tabObj (ps ++ #[rawInt pos.line,rawInt pos.col,.ref c'])):=Heap.get?_push_of_some _ htb
  have hl:(ps ++ #[rawInt pos.line,rawInt pos.col,.ref c']).toList=ps.toList ++ [rawInt pos.line,rawInt pos.col,.ref c']:=by simp
  refine h h'.objs.size c' _ ctv oc vs t H1 _ (I.call' (ch:=[]) rfl ⟨fun b o e n hb hx'=>?_,fun b o e n hb hx'=>?_,fun b o e n hx'=>?_,fun b o e hx'=>?_,fun b xs e=>?_,fun b o u e=>?_,fun b qs e=>?_⟩ (fun b u e=>?_) I.bare fun b z=>absurd z (by simp)) nf kS ⟨_,kP,by rw [hl]; exact TriplesOk_snoc _ _ _ _ htr,.inr ⟨c',oc,vs,t,by rw [hl]; exact codeAmong_snoc _ htr hnf,kc,hd,hv⟩⟩ kf kc hd hv
  ·exact old b o e fun z=>by rw [z,hP] at n; cases n
  ·exact ⟨o.slots,old b o e fun z=>by rw [z,hP] at n; cases n⟩
  ·rw [k1 b (fun z=>by rw [z,hP] at n; cases n) (Nat.ne_of_lt (Nat.lt_of_lt_of_le (Heap.lt_size e) hge)) (Nat.ne_of_lt (Nat.lt_of_lt_of_le (Heap.lt_size e) (Nat.le_trans hge (Nat.le_of_lt hlt))))]
   exact n
  ·by_cases z:b=P
   ·exact ⟨_,by rw [z]; exact tabP⟩
   ·exact ⟨o,old b o e z⟩
  ·exact kS b _ e fun z=>by rw [z,hP] at e; cases e
  ·exact kS b _ e fun z=>by rw [z,hP] at e; cases e
  ·by_cases z:b=P
   ·rw [z,hP] at e
    cases e
    exact ⟨_,by rw [z]; exact kP⟩
   ·exact ⟨#[],by rw [kS b _ e z]; simp⟩
  ·by_cases z1:b=h'.objs.size
   ·rw [z1,kf] at e
    cases e
    rw [z1]
    exact dZ (Heap.get?_push_size _ rfl)
   by_cases z2:b=c'
   ·rw [z2,kc] at e
    cases e
    rw [z2]
    exact dZ (Heap.get?_push_of_some _ hoc)
   by_cases z3:b=P
   ·rw [z3,kP] at e
    cases e
    rw [z3]
    exact tabP
   rw [k1 b z3 z2 z1] at e
   refine (I.hok b u e).stay (fun d o hd' q=>old d o q ?_) (fun d q=>kS d _ q ?_) fun d xs q=>kS d _ q ?_
   ·rcases hd' with rfl | hd'
    ·exact z3
    ·exact fun z=>by rw [z,hP] at hd'; cases hd'
   ·exact fun z=>by rw [z,hP] at q; cases q
   ·exact fun z=>by rw [z,hP] at q; cases q
 ·refine kla_makeFunctionHit (mg:=X.mg) hcl I.ok.glob G hcode (C.keeps I.bk) hPs htr hf hbu fun ctv h' tk hk hsz=>?_
  have nf:H h'.objs.size=none:=I.hok.fresh hsz
  have kS : ∀ b o,H b=some o→upd H h'.objs.size (aP h'.objs.size (kla_obj name qual params body scope clos ((X.mg "__name__").getD .none) cd ctv)) b=some o:=fun b o e=>by
   rw [aJ (aN e nf)]
   exact e
  have old : ∀ b o,s.heap.get? b=some o→(h'.push (kla_obj name qual params body scope clos ((X.mg "__name__").getD .none) cd ctv)).get? b=some o:=fun b o e=>Heap.get?_push_of_some _ (hk b o e)
  refine h h'.objs.size cd _ ctv oc vs t _ _ (I.call' (ch:=[]) rfl (Un.laid old hsz nf) (fun b u e=>?_) I.bare fun b z=>absurd z (by simp)) nf (fun b o e _=>kS b o e) ⟨ps,kS _ _ hP,htr,.inr ⟨cd,oc,vs,t,hf,kS _ _ hcd,hd,hv⟩⟩ az (kS _ _ hcd) hd hv
  by_cases z1:b=h'.objs.size
  ·rw [z1,az] at e
   cases e
   rw [z1]
   exact dZ (Heap.get?_push_size _ rfl)
  rw [aJ z1] at e
  exact (I.hok b u e).stay (fun d o _ q=>old d o q) (fun d q=>kS d _ q) fun d xs q=>kS d _ q
end
section
variable {CX:CXT} {P:Program} {w:World} {K:PySem.W.Frag} {mg:Str→Option Value} {base:Heap} {N:List Str} {qual:Str} {scope:Scope} {f c Pt:Addr} {A:Around} {outer:List Env} {s0 s:Shared} {H0 H:Hp} {E:XK} {σ:St} {Q:VK}
theorem GP {T:rM} {cs:List Addr} {fvs:List V} {pos p2:Pos} (I:Inv (gj CX P w K mg base N qual scope f (.ref c) A outer s0 H0 E) [] σ H s) (bm:BMain mg base) (C:CodeHd base c Pt) (hT:TabAt H Pt pos T.qual)
  (hq:(envOfC qual scope s0.heap.objs.size f (.ref c)).qual ++ "<lambda>" = T.qual)
  (hcl:closureFor T.scope (envOfC qual scope s0.heap.objs.size f (.ref c))=pure (T.xs.zip cs)) (hd0:defaultsOf T.params (envOfC qual scope s0.heap.objs.size f (.ref c))=([],[]))
  (hndC:cs.Nodup) (hlen:cs.length=T.xs.length) (hlenV:fvs.length=T.xs.length)
  (hfv : ∀ (j:Nat) (a:Addr),cs[j]?=some a → ∃ (x:Str) (m:Nat) (v:V),(envOfC qual scope s0.heap.objs.size f (.ref c)).cells.lookup x=some a∧scope.names.lookup x=some .cell∧N[m]?=some x∧σ[m]?=some (some v)∧fvs[j]?=some v)
  (hQ : ∀ (fi:Addr) (H2:Hp),H fi=none→(∀ a∈cs,H a=none)→(∀ b o,H b=some o→b ≠ Pt→H2 b=some o)→TabAt H2 Pt pos T.qual→lg H2 fi T cs fvs→Q (.ref fi) H2) :
  wpAny (model P w) (A.deeper (envOfC qual scope s0.heap.objs.size f (.ref c))) (execs [.Return (some (.Lambda T.params T.body T.scope pos)) p2] (envOfC qual scope s0.heap.objs.size f (.ref c)))
   (fun fl s' => ∃ u,fl=.ret u∧CE outer P w H0 s0 Q u s') (gj CX P w K mg base N qual scope f (.ref c) A outer s0 H0 E).xe s:=by
 refine wpAny_execs_cons (wpAny_Return_some (kla_eval hd0 ?_))
 rw [hq]
 refine Fb (X:=gj CX P w K mg base N qual scope f (.ref c) A outer s0 H0 E) (n:=pos.line) I bm rfl C hT hcl fun fi cd pm ctv oc vs t H1 s1 I1 nfi keep hT1 hf1 hc1 hd hv=>?_
 refine ⟨.ref fi,rfl,.ref fi,fun b=>if b∈cs then (s1.heap.get? b).map (aP b) else H1 b,I1.os,I1.bare,?_,?_,rfl,?_⟩
 all_goals
  have cellsOf : ∀ a∈cs,∃ x,(envOfC qual scope s0.heap.objs.size f (.ref c)).cells.lookup x=some a:=fun a ha'=>by
   obtain ⟨j,hj⟩:=List.getElem?_of_mem ha'
   obtain ⟨x,m,v,h1,_⟩:=hfv j a hj
   exact ⟨x,h1⟩
  have fresh : ∀ a∈cs,s0.heap.objs.size≤a:=fun a ha'=>by
   obtain ⟨x,hx⟩:=cellsOf a ha'
   exact I1.ok.cab x a rfl hx
  have gone : ∀ a∈cs,H1 a=none:=fun a ha'=>by
   obtain ⟨x,hx⟩:=cellsOf a ha'
   exact I1.freeC x a hx
  have out : ∀ b o,H1 b=some o→b ∉ cs:=fun b o e z=>by
   rw [gone b z] at e
   cases e
 ·have U:Un (frs outer) [] H0 H1 s0.heap s1.heap:=I1.base
  refine ⟨U.keep,U.slot,fun b o e n hx'=>?_,U.there,fun b xs e=>?_,fun b o v e=>?_,fun b ps e=>?_⟩
  ·show (if b∈cs then _ else H1 b)=none
   rw [if_neg (fun z=>absurd (Nat.lt_of_lt_of_le (Heap.lt_size e) (fresh b z)) (Nat.lt_irrefl _))]
   exact U.free b o e n hx'
  ·have e1:=U.tups b xs e
   show (if b∈cs then _ else H1 b)=_
   rw [if_neg (out b _ e1)]
   exact e1
  ·have e1:=U.frzs b o v e
   show (if b∈cs then _ else H1 b)=_
   rw [if_neg (out b _ e1)]
   exact e1
  ·obtain ⟨more,e1⟩:=U.tbls b ps e
   refine ⟨more,?_⟩
   show (if b∈cs then _ else H1 b)=_
   rw [if_neg (out b _ e1)]
   exact e1
 ·intro b u' e
  have e:(if b∈cs then (s1.heap.get? b).map (aP b) else H1 b)=some u':=e
  by_cases hb:b∈cs
  ·rw [if_pos hb] at e
   cases q:s1.heap.get? b with
   | none=>rw [q] at e; cases e
   | some o =>
    rw [q] at e
    cases e
    exact dZ q
  ·rw [if_neg hb] at e
   refine (I1.hok b u' e).stay (fun _ _ _ q=>q) (fun d q=>?_) fun d xs q=>?_
   ·show (if d∈cs then _ else H1 d)=_
    rw [if_neg (out d _ q)]
    exact q
   ·show (if d∈cs then _ else H1 d)=_
    rw [if_neg (out d _ q)]
    exact q
 ·have kp : ∀ b o,H1 b=some o→(fun b=>if b∈cs then (s1.heap.get? b).map (aP b) else H1 b) b=some o:=fun b o e=>by
   show (if b∈cs then _ else H1 b)=_
   rw [if_neg (out b _ e)]
   exact e
  refine hQ fi _ nfi (fun a ha'=>?_) (fun b o e n=>kp b o (keep b o e n)) ?_ ⟨⟨cd,pm,ctv,oc,vs,t,kp _ _ hf1,kp _ _ hc1,hd,hv⟩,fun j a hj=>?_,hndC,hlen,hlenV⟩
  ·obtain ⟨x,hx⟩:=cellsOf a ha'
   exact I.freeC x a hx
  ·obtain ⟨ps,e1,e2,e3⟩:=hT1
   refine ⟨ps,kp _ _ e1,e2,?_⟩
   rcases e3 with e3 | ⟨cd',oc',vs',t',e4,e5,e6⟩
   ·exact .inl e3
   ·exact .inr ⟨cd',oc',vs',t',e4,kp _ _ e5,e6⟩
  ·obtain ⟨x,m,v,h1,h2,h3,h4,h5⟩:=hfv j a hj
   obtain ⟨mm,_,hl⟩:=I1.loc
   obtain ⟨u',r',l⟩:=hl m x v h3 h4 (.inr (.inl h2))
   have l' : ∃ c',(envOfC qual scope s0.heap.objs.size f (.ref c)).cells.lookup x=some c'∧s1.heap.IsCell c' (some u'):=by
    rcases l with ⟨l1,_⟩ | ⟨_,l2⟩
    ·have l1:scope.names.lookup x=some .local:=l1
     rw [h2] at l1
     cases l1
    ·exact l2
   obtain ⟨c',l1,co,l2,l3⟩:=l'
   rw [h1] at l1
   cases l1
   refine ⟨co,v,u',h5,?_,l3,r'⟩
   show (if a∈cs then (s1.heap.get? a).map (aP a) else H1 a)=_
   rw [if_pos (List.mem_of_getElem? hj),l2]
   rfl
end
structure Fy (N:List Str) (qual:Str) (scope:Scope) (T:rM) (slots:List Nat) (csF:Addr→List Addr):Prop where
 qn : ∀ (L f:Addr) (c:Value),(envOfC qual scope L f c).qual ++ "<lambda>" = T.qual
 cl : ∀ (L f:Addr) (c:Value),closureFor T.scope (envOfC qual scope L f c)=pure (T.xs.zip (csF L))
 d0 : ∀ (L f:Addr) (c:Value),defaultsOf T.params (envOfC qual scope L f c)=([],[])
 ndC : ∀ L:Addr,(csF L).Nodup
 len : ∀ L:Addr,(csF L).length=T.xs.length
 fv : ∀ (L f:Addr) (c:Value) (j:Nat) (a:Addr),(csF L)[j]?=some a → ∃ (x:Str) (m:Nat),(envOfC qual scope L f c).cells.lookup x=some a∧scope.names.lookup x=some .cell∧N[m]?=some x∧slots[j]?=some m
def Hc (H:Hp) (Pt:Addr) (pos:Pos) (T:rM) (slots:List Nat) (σ:St) (Q:VK):Prop :=
 TabAt H Pt pos T.qual ∧ ∃ fvs:List V,(∀ j m:Nat,slots[j]?=some m → ∃ v,σ[m]?=some (some v)∧fvs[j]?=some v)∧fvs.length=T.xs.length ∧
  ∀ (fi:Addr) (cs:List Addr) (H2:Hp),H fi=none→(∀ a∈cs,H a=none)→(∀ b o,H b=some o→b ≠ Pt→H2 b=some o)→TabAt H2 Pt pos T.qual→lg H2 fi T cs fvs→Q (.ref fi) H2
section
variable {P:Program} {w:World} {K:PySem.W.Frag} {mg:Str→Option Value} {base:Heap} {x qual:Str} {st:Stmt} {f c Pt:Addr} {fd:FuncData} {N ps:List Str} {k i:Nat} {sp:Sp} {T:rM} {slots:List Nat} {csF:Addr→List Addr} {pos p1 p2:Pos}
theorem Cm {A:Around} {outer:List Env} {s s1:Shared} {H H1:Hp} {Q:VK} {E:XK} {σ:St} (M:Fy N qual (defScope st) T slots csF) (bm:BMain mg base) (C:CodeHd base c Pt) (I:Inv (gj CX0 P w K mg base N qual (defScope st) f (.ref c) A outer s H E) [] σ H1 s1) (h:Hc H1 Pt pos T slots σ Q) :
  wpAny (model P w) (A.deeper (envOfC qual (defScope st) s.heap.objs.size f (.ref c))) (execs [.Return (some (.Lambda T.params T.body T.scope pos)) p2] (envOfC qual (defScope st) s.heap.objs.size f (.ref c)))
   (fun fl s' => ∃ u,fl=.ret u∧CE outer P w H s Q u s') (gj CX0 P w K mg base N qual (defScope st) f (.ref c) A outer s H E).xe s1:=by
 obtain ⟨hT,fvs,h1,h2,h3⟩:=h
 refine GP (cs:=csF s.heap.objs.size) (fvs:=fvs) I bm C hT (M.qn _ _ _) (M.cl _ _ _) (M.d0 _ _ _) (M.ndC _) (M.len _) h2 (fun j a e=>?_) (fun fi H2 n1 n2 n3 n4 n5=>h3 fi _ H2 n1 n2 n3 n4 n5)
 obtain ⟨y,m,e1,e2,e3,e4⟩:=M.fv s.heap.objs.size f (.ref c) j a e
 obtain ⟨v,e6,e7⟩:=h1 j m e4
 exact ⟨y,m,v,e1,e2,e3,e6,e7⟩
theorem Fun.makerL1 {st0:Stmt} (F:Fun K x qual st f fd) (S:aC N ps (defScope st)) (M:Fy N qual (defScope st) T slots csF) (bm:BMain mg base) (hcode:fd.code=.ref c) (C:CodeHd base c Pt) (len : ∀ vs H Q E,sp vs H Q E→vs.length=ps.length)
  (hb:defBody st=[st0,.Return (some (.Lambda T.params T.body T.scope pos)) p2])
  (h : ∀ (cdv:Value) (A:Around) (outer:List Env) (s:Shared) (H:Hp) (vs:List V) (Q:VK) (E:XK),dN k (A.deeper (envOfC qual (defScope st) s.heap.objs.size f cdv))→sp vs H Q E →
   ∃ t,PS (gj CX0 P w K mg base N qual (defScope st) f cdv A outer s H E).nox st0 t∧t { nx:=fun σ H'=>Hc H' Pt pos T slots σ Q,rt:=fun _ _=>False } (start N vs) H):aX P w K mg base CX0 (k + 1) f fd ps sp:=by
 obtain ⟨oc,od,kV,doc,pm,an,cdv,ct,osl,rfl,lk,hcd⟩:=F.ex
 obtain rfl:cdv=.ref c:=hcode
 refine z8 lk hcd S len fun A outer s H vs Q E s1 hr hsp I=>?_
 rw [hb]
 obtain ⟨t,h1,h2⟩:=h _ A outer s H vs Q E hr hsp
 refine wpAny_execs_cons (wpAny_mono (h1 [] s1 (start N vs) H _ (I.wish _) h2) (fun fl s2 q=>?_) fun _ _ z=>False.elim z)
 cases fl with
 | next =>
  obtain ⟨σ,H1,I1,q⟩:=q
  exact Cm M bm C I1.unwish q
 | ret u=>obtain ⟨_,_,_,_,_,z⟩:=q; exact False.elim z
 | brk=>obtain ⟨_,_,_,z⟩:=q; exact False.elim z
 | cont=>obtain ⟨_,_,_,z⟩:=q; exact False.elim z
theorem Jb {sp:Addr→Sp} (S:tM N T) (hb : ∀ (cl:List (Str × Addr)) (pm cd ctv:Value) (us:List Value),us.length=T.ps.length→bindArgs (kla_fn "<lambda>" T.qual T.params T.body T.scope cl pm cd ctv) ⟨us,[]⟩=pure (T.ps.zip us))
  (h : ∀ (f:Addr) (vs:List V) (H:Hp) (Q:VK),sp f vs H Q E0→vs.length=T.ps.length ∧ ∃ cs fvs,lg H f T cs fvs ∧
   ∀ (cd:Addr) (A:Around) (outer:List Env) (s:Shared),dN k (A.deeper (envX T.qual T.scope s.heap.objs.size f (.ref cd) (T.xs.zip cs))) → ∃ t,PE (qp P w K mg base N T.qual T.scope f (.ref cd) (T.xs.zip cs) A outer s (hide H cs)) T.body t∧t (start N (vs ++ fvs)) (hide H cs) fun v H'=>Q v (over H cs H')) :
  nA P w K mg base (k + 1) sp:=by
 intro f A outer s H us vs Q hr e0 r hsp
 obtain ⟨hl,cs,fvs,ca,hbody⟩:=h f vs H Q hsp
 exact GR S hr e0 ca (fun cl pm cd ctv=>hb cl pm cd ctv us (by rw [← r.length]; exact hl)) r hl fun cd hr'=>hbody cd A outer s hr'
end
end L2
set_option Elab.async false
set_option linter.all false
set_option maxRecDepth 100000
set_option maxHeartbeats 4000000
namespace L2
open PySem PySem.Spec PyProof.Rows
section
variable {X:Cx} {pins:List (Addr × Obj)} {σ:St} {H:Hp} {s:Shared} {h':Heap}
theorem Inv.turnN {ch:List Addr} {p:Addr} {o:HO} {t':Nat} (I:Inv X pins σ H s) (hf : ∀ b∈ch,jq X pins H b)
  (k : ∀ b u,b ∉ ch→s.heap.get? b=some u→h'.get? b=some u) (hp:s.heap.objs.size≤p)
  (new:cD X.prog X.w (upd H p o) h' p o):Inv X pins σ (upd H p o) { s with heap:=h',toks:=t' }:=by
 have hn:=I.hok.fresh hp
 have ne : ∀ b u,H b=some u→b ∉ ch:=fun b u q z=>by rw [(hf b z).1] at q; cases q
 have up : ∀ b u,H b=some u→upd H p o b=some u:=fun b u q=>by rw [aJ (aN q hn)]; exact q
 refine I.step (g':=s.gens) (d':=s.drawn) (ch:=ch) (fun b hb=>?_) (fun b u _ _ hx q _=>k b u hx q) (fun b u _ _ hx q _=>⟨u.slots,k b u hx q⟩)
  (fun b u _ q n=>by rw [aJ (Nat.ne_of_lt (Nat.lt_of_lt_of_le (Heap.lt_size q) hp))]; exact n) (fun b u hx q=>⟨u,k b u hx q⟩)
  (fun b xs q=>up _ _ q) (fun b ob u q=>up _ _ q) (fun b ps q=>⟨#[],by rw [up _ _ q]; simp⟩) (fun m hm=>?_) (fun b u q=>?_) I.bare
 ·have fe:=hf b hb
  exact ⟨fe.2.2.2.1,fe.2.1,fe.2.2.2.2.1,fe.2.2.2.2.2⟩
 ·obtain ⟨ob,es,ep,ho,r⟩:=hm
  exact ⟨ob,es,ep,k _ ob (fun z=>(hf _ z).2.1 rfl) ho,r⟩
 ·by_cases hb:b=p
  ·subst hb
   rw [az] at q
   cases q
   exact new
  ·rw [aJ hb] at q
   refine (I.hok b u q).stay (fun c v hc r=>k c v ?_ r) (fun c r=>up _ _ r) fun c xs r=>up _ _ r
   rcases hc with rfl | z
   ·exact ne _ _ q
   ·exact ne _ _ z
theorem Inv.turnedN {ch:List Addr} {t':Nat} (I:Inv X pins σ H s) (hf : ∀ b∈ch,jq X pins H b)
  (k : ∀ b u,b ∉ ch→s.heap.get? b=some u→h'.get? b=some u):Inv X pins σ H { s with heap:=h',toks:=t' }:=by
 have ne : ∀ b u,H b=some u→b ∉ ch:=fun b u q z=>by rw [(hf b z).1] at q; cases q
 refine I.step (g':=s.gens) (d':=s.drawn) (ch:=ch) (fun b hb=>?_) (fun b u _ _ hx q _=>k b u hx q) (fun b u _ _ hx q _=>⟨u.slots,k b u hx q⟩)
  (fun _ _ _ _ n=>n) (fun b u hx q=>⟨u,k b u hx q⟩)
  (fun _ _ q=>q) (fun _ _ _ q=>q) (fun b ps q=>⟨#[],by rw [q]; simp⟩) (fun m hm=>?_) (fun b u q=>?_) I.bare
 ·have fe:=hf b hb
  exact ⟨fe.2.2.2.1,fe.2.1,fe.2.2.2.2.1,fe.2.2.2.2.2⟩
 ·obtain ⟨ob,es,ep,ho,r⟩:=hm
  exact ⟨ob,es,ep,k _ ob (fun z=>(hf _ z).2.1 rfl) ho,r⟩
 ·refine (I.hok b u q).stay (fun c v hc r=>k c v ?_ r) (fun c r=>r) fun c xs r=>r
  rcases hc with rfl | z
  ·exact ne _ _ q
  ·exact ne _ _ z
end
def Itz (K:PySem.W.Frag) (a b:Addr):It :=
  ⟨fun i H => ∃ xs ys x y,SqL K H a xs∧SqL K H b ys∧xs[i]?=some x∧ys[i]?=some y,
   fun i H v H' => ∃ p x y,H p=none∧v=.ref p∧H'=upd H p (.tup [x,y])∧(∀ xs,SqL K H a xs→xs[i]?=some x) ∧ ∀ ys,SqL K H b ys→ys[i]?=some y,
   fun i H => ∃ xs ys,SqL K H a xs∧SqL K H b ys∧(xs.length≤i∨ys.length≤i)⟩
structure zj (z TI TO i1 i2:Addr):Prop where
 TIz:TI ≠ z
 TOz:TO ≠ z
 i1z:i1 ≠ z
 i2z:i2 ≠ z
 TITO:TI ≠ TO
 TIi1:TI ≠ i1
 TIi2:TI ≠ i2
 TOi1:TO ≠ i1
 TOi2:TO ≠ i2
 i12:i1 ≠ i2
def Hg (a b z TI TO i1 i2:Addr) (i:Nat) (h:Heap):Prop:=IsZip h z TI TO .none∧IsPair h TI (.ref i1) (.ref i2)∧(∃ x y,IsPair h TO x y)∧h.IsListIter i1 a i∧h.IsListIter i2 b i
theorem jW {h:Heap} {a b:Addr} {o u:Obj} (ho:h.get? a=some o) (hu:h.get? b=some u) (hc:o.cls ≠ u.cls):a ≠ b:=fun z=>by
 subst z
 rw [ho] at hu
 cases hu
 exact hc rfl
theorem yZ {h:Heap} {a b z TI TO i1 i2:Addr} {i:Nat} {xs ys:Array Value} (D:zj z TI TO i1 i2) (st:Hg a b z TI TO i1 i2 i h) (h1:h.IsList a xs) (h2:h.IsList b ys):ZipApart z TI TO i1 i2 a b:=by
 obtain ⟨hz,hTI,⟨x,y,hTO⟩,⟨o1,e1,c1,_⟩,⟨o2,e2,c2,_⟩⟩:=st
 obtain ⟨oa,ea,ca,_⟩:=h1
 obtain ⟨ob,eb,cb,_⟩:=h2
 exact ⟨D.TIz,D.TOz,D.i1z,D.i2z,D.TITO,D.TIi1,D.TIi2,D.TOi1,D.TOi2,D.i12,
  jW ea hz (by rw [ca]; show Value.type "list" ≠ Value.type "zip"; decide),jW ea hTO (by rw [ca]; show Value.type "list" ≠ Value.type "tuple"; decide),jW ea e1 (by rw [ca,c1]; decide),jW ea e2 (by rw [ca,c2]; decide),
  jW eb hz (by rw [cb]; show Value.type "list" ≠ Value.type "zip"; decide),jW eb hTO (by rw [cb]; show Value.type "list" ≠ Value.type "tuple"; decide),jW eb e1 (by rw [cb,c1]; decide),jW eb e2 (by rw [cb,c2]; decide)⟩
theorem Eb {P:Program} {w:World} {K:PySem.W.Frag} {elts:List Expr} {x1:Nat} {tpos:Pos} (a b z TI TO i1 i2:Addr) (D:zj z TI TO i1 i2) :
  Turn P w K (.Tuple elts x1 tpos) (Itz K a b) [z,TI,TO,i1,i2] z (Hg a b z TI TO i1 i2) where
 mem:=by simp
 obj:=fun i h st c hc=>by
  obtain ⟨hz,hTI,⟨x,y,hTO⟩,⟨o1,e1,c1,d1⟩,⟨o2,e2,c2,d2⟩⟩:=st
  have hc':c=z∨c=TI∨c=TO∨c=i1∨c=i2:=by simpa using hc
  rcases hc' with rfl | rfl | rfl | rfl | rfl
  ·exact ⟨_,hz,fun v q=>by cases q⟩
  ·exact ⟨_,hTI,fun v q=>by cases q⟩
  ·exact ⟨_,hTO,fun v q=>by cases q⟩
  ·exact ⟨_,e1,fun v q=>by rw [d1] at q; cases q⟩
  ·exact ⟨_,e2,fun v q=>by rw [d2] at q; cases q⟩
 keep:=fun i h h' st k=>by
  obtain ⟨hz,hTI,⟨x,y,hTO⟩,h1,h2⟩:=st
  exact ⟨k z (by simp) _ hz,k TI (by simp) _ hTI,⟨x,y,k TO (by simp) _ hTO⟩,h1.at fun o q=>k i1 (by simp) o q,h2.at fun o q=>k i2 (by simp) o q⟩
 item:=by
  intro X hP hw hK hc i pins s σ H E I hf st hg
  subst hP hw hK
  obtain ⟨xs,ys,x,y,hq1,hq2,hx,hy⟩:=hg
  obtain ⟨is1,rv1,p1,hz1⟩:=I.list hq1
  obtain ⟨is2,rv2,p2,hz2⟩:=I.list hq2
  obtain ⟨u1,hu1,ru1⟩:=rv1.get hx
  obtain ⟨u2,hu2,ru2⟩:=rv2.get hy
  have D7:=yZ D st p1.isList p2.isList
  obtain ⟨hz,hTI,⟨v1,v2,hTO⟩,st1,st2⟩:=id st
  refine wpAny_pyNext_zip_item D7 hz hTI hTO st1 st2 p1.isList p2.isList (x:=u1) (by simpa using hu1) (y:=u2) (by simpa using hu2) fun h1 a1 a2 a3 a4 a5 a6 hk=>?_
  refine ⟨_,rfl,wpAny_letOwnedTupleGo_zip a1 fun h2 he2 hs2=>?_⟩
  have lt : ∀ {c o},s.heap.get? c=some o→s.heap.objs.size ≠ c:=fun e=>Nat.ne_of_gt (Heap.lt_size e)
  have g2:h2.get? s.heap.objs.size=some { cls:=.type "tuple", data:=.seq #[u1,u2] }:=(hs2.2 _ (lt hz)).trans a5
  have kk : ∀ b o,b ∉ [z,TI,TO,i1,i2]→s.heap.get? b=some o→h2.get? b=some o:=fun b o hb q =>
   (hs2.2 b (fun e=>hb (by simp [e]))).trans (hk b o (fun e=>hb (by simp [e])) (fun e=>hb (by simp [e])) (fun e=>hb (by simp [e])) (fun e=>hb (by simp [e])) q)
  have new:cD X.prog X.w (upd H s.heap.objs.size (.tup [x,y])) h2 s.heap.objs.size (.tup [x,y]) :=
   ⟨(by show 2≤sizeLine; decide),[u1,u2],.cons ru1 (.cons ru2 .nil),_,g2,rfl,_,rfl⟩
  have I2:=I.turnN (h':=h2) (t':=s.toks) hf kk (Nat.le_refl _) new
  have hn:H s.heap.objs.size=none:=I.hok.fresh (Nat.le_refl _)
  refine ⟨.ref s.heap.objs.size,_,I2,rfl,⟨_,x,y,hn,rfl,rfl,fun zs hq=>by rw [I.list_inj hq hq1]; exact hx,fun zs hq=>by rw [I.list_inj hq hq2]; exact hy⟩,
   ⟨he2,(hs2.2 _ D.TIz).trans (hk _ _ D.TIz D.TITO D.TIi1 D.TIi2 hTI),⟨u1,u2,(hs2.2 _ D.TOz).trans a2⟩,a3.extBut hs2.extBut D.i1z,a4.extBut hs2.extBut D.i2z⟩,fun b hb=>?_⟩
  have hbs:b ≠ s.heap.objs.size:=by
   obtain ⟨o1,e1,_⟩:=st1
   obtain ⟨o2,e2,_⟩:=st2
   have hc':b=z∨b=TI∨b=TO∨b=i1∨b=i2:=by simpa using hb
   rcases hc' with rfl | rfl | rfl | rfl | rfl
   ·exact (lt hz).symm
   ·exact (lt hTI).symm
   ·exact (lt hTO).symm
   ·exact (lt e1).symm
   ·exact (lt e2).symm
  rw [aJ hbs]
  exact (hf b hb).1
 done:=by
  intro X hP hw hK hc i pins s σ H E I hf st hg
  subst hP hw hK
  obtain ⟨xs,ys,hq1,hq2,hx⟩:=hg
  obtain ⟨is1,rv1,p1,hz1⟩:=I.list hq1
  obtain ⟨is2,rv2,p2,hz2⟩:=I.list hq2
  have D7:=yZ D st p1.isList p2.isList
  obtain ⟨hz,hTI,⟨v1,v2,hTO⟩,st1,st2⟩:=id st
  have l1:=rv1.length
  have l2:=rv2.length
  refine wpAny_pyNext_zip_end (I.ok.hd hc) D7 hz hTI hTO st1 st2 p1.isList p2.isList ?_ fun h' hk=>⟨rfl,I.turnedN (t':=s.toks) hf fun b o hb q=>hk b o (fun e=>hb (by simp [e])) (fun e=>hb (by simp [e])) (fun e=>hb (by simp [e])) (fun e=>hb (by simp [e])) q⟩
  rcases hx with hx | hx
  ·exact .inl (by simp; omega)
  ·exact .inr (by simp; omega)
 self:=fun _ _ _ _ _ st h=>wpAny_pyIter_zip st.1 h
section
variable {X:Cx}
def Kf (K:PySem.W.Frag) (ta:TA):TI:=fun σ H R=>ta σ H fun vs H1 => ∃ a b xs ys,vs=[.ref a,.ref b]∧SqL K H1 a xs∧SqL K H1 b ys∧R (Itz K a b) H1
theorem Ib {a b:Expr} {ta:TA} {p pos:Pos} {elts:List Expr} {x1:Nat} {tpos:Pos} (hg:Gl X "zip") (hm:X.mg "zip" = none) (hv:bootBuiltins "zip" = some (.type "zip")) (ha:PA X [a,b] ta)
  (hs:starEach [a,b] X.env=[(false,eval a X.env),(false,eval b X.env)]:=by rfl) (hs2:starEach [b] X.env=[(false,eval b X.env)]:=by rfl) :
  PI X (.Tuple elts x1 tpos) (.Call (.Name "zip" p) [a,b] [] pos) (Kf X.K ta):=by
 intro pins s σ H R I h
 refine Call_ (eO I hg hm hv (PyProof.Rows.callWith_type1 (thn (ha pos pins s σ H _ I h) fun us s1 ⟨vs,H1,I1,r1,q1⟩=>?_) (by rw [hs,hs2]) (by rw [hs2]; rfl)))
 obtain ⟨l1,l2,xs,ys,e,hq1,hq2,q⟩:=q1
 subst e
 cases r1 with
 | cons r rr =>
  cases rr with
  | cons r' rr =>
   cases rr
   cases r
   cases r'
   obtain ⟨is1,rv1,p1,hz1⟩:=I1.list hq1
   obtain ⟨is2,rv2,p2,hz2⟩:=I1.list hq2
   refine call_zip_2 p1.isList p2.isList fun h' hz hTI hTO hi1 hi2 hsz hk=>?_
   refine wpAny_pyIter_zip hz ?_
   have I2:Inv X pins σ H1 { s1 with heap:=h' }:=I1.kept (t':=s1.toks) hk
   have D:zj (s1.heap.objs.size + 4) (s1.heap.objs.size + 2) (s1.heap.objs.size + 3) s1.heap.objs.size (s1.heap.objs.size + 1):=by
    have k : ∀ n i j:Nat,i ≠ j→n + i ≠ n + j:=fun n i j h=>by omega
    exact ⟨k _ 2 4 (by decide),k _ 3 4 (by decide),k _ 0 4 (by decide),k _ 1 4 (by decide),k _ 2 3 (by decide),k _ 2 0 (by decide),k _ 2 1 (by decide),k _ 3 0 (by decide),k _ 3 1 (by decide),k _ 0 1 (by decide)⟩
   refine ⟨s1.heap.objs.size + 4,_,_,Itz X.K l1 l2,H1,rfl,I2,Eb l1 l2 _ _ _ _ _ D,⟨hz,hTI,⟨_,_,hTO⟩,hi1,hi2⟩,fun c hc=>?_,q⟩
   have hle:s1.heap.objs.size≤c:=by
    have hc':c=s1.heap.objs.size + 4∨c=s1.heap.objs.size + 2∨c=s1.heap.objs.size + 3∨c=s1.heap.objs.size∨c=s1.heap.objs.size + 1:=by simpa using hc
    rcases hc' with rfl | rfl | rfl | rfl | rfl
    ·exact Nat.le_add_right _ _
    ·exact Nat.le_add_right _ _
    ·exact Nat.le_add_right _ _
    ·exact Nat.le_refl _
    ·exact Nat.le_add_right _ _
   exact I1.fpOk hle (I1.hok.fresh hle)
end
theorem G4 {K:PySem.W.Frag} {a b:Addr} {xs ys:List V} {g:TG} {tb:TS} {D:Ends} {σ:St} {H:Hp} (Pv:Nat→St→Hp→Prop) (h0:Pv 0 σ H) (hl : ∀ i σ H,i≤min xs.length ys.length→Pv i σ H→SqL K H a xs∧SqL K H b ys)
  (hs : ∀ i x y σ H p,xs[i]?=some x→ys[i]?=some y→Pv i σ H→H p=none→g (.ref p) σ (upd H p (.tup [x,y])) fun σ2 H2=>tb { D with nx:=Pv (i + 1),ct:=Pv (i + 1),bk:=D.nx } σ2 H2) (hd : ∀ σ H,Pv (min xs.length ys.length) σ H→D.nx σ H) :
  ∃ W:Nat→Nat→St→Hp→Prop,(∃ m,W 0 m σ H) ∧ ∀ i m σ H,W i m σ H →
   ((Itz K a b).stop i H∧D.nx σ H)∨((Itz K a b).go i H ∧ ∃ N:St→Hp→Prop,(∀ σ' H',N σ' H' → ∃ m',m' < m∧W (i + 1) m' σ' H') ∧ ∀ x H',(Itz K a b).yld i H x H'→g x σ H' fun σ2 H2=>tb { D with nx:=N,ct:=N,bk:=D.nx } σ2 H2):=by
 refine ⟨fun i m σ H=>m=min xs.length ys.length - i∧i≤min xs.length ys.length∧Pv i σ H,⟨min xs.length ys.length,rfl,Nat.zero_le _,h0⟩,?_⟩
 rintro i m σ H ⟨rfl,hi,p⟩
 obtain ⟨q1,q2⟩:=hl i σ H hi p
 by_cases hlt:i < min xs.length ys.length
 ·have k1:i < xs.length:=by omega
  have k2:i < ys.length:=by omega
  refine .inr ⟨⟨xs,ys,xs[i],ys[i],q1,q2,List.getElem?_eq_getElem k1,List.getElem?_eq_getElem k2⟩,Pv (i + 1),fun σ' H' p'=>⟨min xs.length ys.length - (i + 1),by omega,rfl,hlt,p'⟩,fun x H' y=>?_⟩
  obtain ⟨c,x,y,hn,e1,e2,hx,hy⟩:=y
  subst e1 e2
  exact hs i x y σ H c (hx xs q1) (hy ys q2) p hn
 ·have e:i=min xs.length ys.length:=by omega
  subst e
  exact .inl ⟨⟨xs,ys,q1,q2,by omega⟩,hd σ H p⟩
end L2
set_option Elab.async false
set_option linter.all false
set_option maxRecDepth 100000
set_option maxHeartbeats 4000000
namespace Tw
def brk:List Int→Int→List Int
 | [],u=>List.replicate u.toNat 0
 | d :: r,u=>List.replicate (u - d).toNat 0 ++ 1 :: brk r (d + 1)
def Dp:List Int→Int→Prop
 | [],u=>0≤u
 | d :: r,u=>0≤d∧d≤u∧Dp r (d + 1)
theorem Dp.pos : ∀ {l:List Int} {u:Int},Dp l u→0≤u
 | [],_,h=>h
 | _ :: _,_,h=>Int.le_trans h.1 h.2.1
theorem jk : ∀ {l:List Int} {u:Int},Dp l u→(brk l u).length=u.toNat + 2 * l.length
 | [],u,_=>by simp [brk]
 | d :: r,u,h=>by
  have:=jk h.2.2
  have h1:=h.1
  have h2:=h.2.1
  simp only [brk,List.length_append,List.length_replicate,List.length_cons,this]
  omega
theorem zg {l:List Int} {u x:Int} {t:List Int} (h:Dp l u) (e:brk l u=x :: t) :
  (x=0∧1≤u∧t=brk l (u - 1)∧Dp l (u - 1)) ∨ ∃ r,l=u :: r∧x=1∧t=brk r (u + 1)∧Dp r (u + 1):=by
 cases l with
 | nil =>
  have hu:0≤u:=h
  rcases Int.lt_or_le 0 u with z | z
  ·refine .inl ?_
   have e1:u.toNat=(u - 1).toNat + 1:=by omega
   simp only [brk] at e ⊢
   rw [e1,List.replicate_succ] at e
   injection e with e2 e3
   exact ⟨e2.symm,z,e3.symm,show 0≤u - 1 by omega⟩
  ·have:u.toNat=0:=by omega
   simp only [brk] at e
   rw [this] at e
   cases e
 | cons d r =>
  obtain ⟨h1,h2,h3⟩:=h
  rcases Int.lt_or_le d u with z | z
  ·refine .inl ?_
   have e1:(u - d).toNat=(u - 1 - d).toNat + 1:=by omega
   simp only [brk] at e ⊢
   rw [e1,List.replicate_succ,List.cons_append] at e
   injection e with e2 e3
   exact ⟨e2.symm,by omega,e3.symm,h1,by omega,h3⟩
  ·have:u=d:=by omega
   subst this
   refine .inr ⟨r,rfl,?_⟩
   simp only [brk] at e
   rw [Int.sub_self] at e
   injection e with e2 e3
   exact ⟨e2.symm,e3.symm,h3⟩
theorem GF {l:List Int} {u:Int} (h:Dp l u) (e:brk l u=[]):l=[]∧u=0:=by
 have:=jk h
 rw [e] at this
 have hp:=h.pos
 cases l with
 | nil =>
  refine ⟨rfl,?_⟩
  have:0=u.toNat + 2 * 0:=this
  omega
 | cons d r =>
  rw [List.length_cons] at this
  have:0=u.toNat + 2 * (r.length + 1):=this
  omega
def bC (ds:List Int):Prop:=ds[0]?=some 0 ∧ ∀ i x y,ds[i]?=some x→ds[i + 1]?=some y→1≤y∧y≤x + 1
theorem Hn : ∀ (r:List Int) (a:Int),(∀ (i:Nat) (x y:Int),(a :: r)[i]?=some x→(a :: r)[i + 1]?=some y→1≤y∧y≤x + 1)→0≤a→Dp r (a + 1)
 | [],a,_,ha=>by show 0≤a + 1; omega
 | d :: r,a,h,ha=>by
  have h0:=h 0 a d rfl rfl
  exact ⟨by omega,h0.2,Hn r d (fun i x y h1 h2=>h (i + 1) x y h1 h2) (by omega)⟩
theorem bC.dp {ds:List Int} (h:bC ds):Dp ds 0:=by
 cases ds with
 | nil=>exact absurd h.1 (by simp)
 | cons d r =>
  have:d=0:=by
   have:=h.1
   exact Option.some.inj this
  subst this
  exact ⟨by decide,by decide,Hn r 0 h.2 (by decide)⟩
theorem bC.one {ds:List Int} (h:bC ds) {i:Nat} {d:Int} (hi:0 < i) (hd:ds[i]?=some d):1≤d:=by
 obtain ⟨j,rfl⟩ : ∃ j,i=j + 1:=⟨i - 1,by omega⟩
 have hl:=(List.getElem?_eq_some_iff.mp hd).1
 have:=h.2 j ds[j] d (List.getElem?_eq_getElem (by omega)) hd
 exact this.1
theorem bC.root:bC [0]:=⟨rfl,fun i x y _ h2=>by simp at h2⟩
theorem bC.snoc {ds:List Int} {a d:Int} (h:bC ds) (hl:ds[ds.length - 1]?=some a) (h1:1≤d) (h2:d≤a + 1):bC (ds ++ [d]):=by
 have h0:0 < ds.length:=by
  have:=(List.getElem?_eq_some_iff.mp h.1).1
  exact this
 refine ⟨by rw [List.getElem?_append_left h0]; exact h.1,fun i x y e1 e2=>?_⟩
 rcases Nat.lt_or_ge (i + 1) ds.length with z | z
 ·rw [List.getElem?_append_left (by omega)] at e1
  rw [List.getElem?_append_left z] at e2
  exact h.2 i x y e1 e2
 ·have hz:=(List.getElem?_eq_some_iff.mp e2).1
  rw [List.length_append,List.length_singleton] at hz
  have ei:i=ds.length - 1:=by omega
  rw [List.getElem?_append_left (by omega),ei,hl] at e1
  rw [List.getElem?_append_right z,show i + 1 - ds.length=0 from by omega] at e2
  have e2:d=y:=Option.some.inj e2
  have e1:a=x:=Option.some.inj e1
  subst e1 e2
  exact ⟨h1,h2⟩
end Tw
set_option Elab.async false
set_option linter.all false
set_option maxRecDepth 100000
set_option maxHeartbeats 4000000
namespace L2
open PySem PySem.Spec PyProof.Rows
section
variable {X:Cx} {tg:Expr}
def Ko (K:PySem.W.Frag) (tl:TE):TI:=fun σ H R=>tl σ H fun x H1 => ∃ a,x=.ref a∧(((∃ xs,SqL K H1 a xs)∧R (Itl K a) H1)∨((∃ xs,SqT K H1 a xs)∧R (Itt K a) H1))
theorem Iw {l:Expr} {tl:TE} (hl:PE X l tl):PI X tg l (Ko X.K tl):=by
 intro pins s σ H R I h
 refine thn (hl pins s σ H _ I h) fun v s1 ⟨x,H1,I1,r1,q1⟩=>?_
 obtain ⟨a,e,q1⟩:=q1
 subst e
 cases r1
 rcases q1 with ⟨⟨xs,hq⟩,q⟩ | ⟨⟨xs,hq⟩,q⟩
 ·obtain ⟨its,rv,p,hz⟩:=I1.list hq
  refine wpAny_pyIter_list p.isList ?_
  refine ⟨s1.heap.objs.size,[s1.heap.objs.size],_,_,H1,rfl,I1.kept (t':=s1.toks) fun b o e=>Heap.get?_push_of_some _ e,vG a _,⟨_,Heap.get?_push_size _ rfl,rfl,rfl⟩,fun b hb=>?_,q⟩
  have e:b=s1.heap.objs.size:=by simpa using hb
  subst e
  exact I1.fpOk (Nat.le_refl _) (I1.hok.fresh (Nat.le_refl _))
 ·obtain ⟨its,rv,p,hz⟩:=I1.tuple hq
  refine wpAny_pyIter_tuple (show s1.heap.IsTuple a its.toArray from p) ?_
  refine ⟨s1.heap.objs.size,[s1.heap.objs.size],_,_,H1,rfl,I1.kept (t':=s1.toks) fun b o e=>Heap.get?_push_of_some _ e,zu a _,⟨_,Heap.get?_push_size _ rfl,rfl,rfl⟩,fun b hb=>?_,q⟩
  have e:b=s1.heap.objs.size:=by simpa using hb
  subst e
  exact I1.fpOk (Nat.le_refl _) (I1.hok.fresh (Nat.le_refl _))
end
end L2
set_option Elab.async false
set_option linter.all false
set_option maxRecDepth 100000
set_option maxHeartbeats 4000000
namespace L2
open PySem PySem.Spec PyProof.Rows
end L2
namespace L2
open PySem PySem.Spec PyProof.Rows
section
variable (P:Program) (w:World)
end
section
variable {P:Program} {w:World} {H H':Hp} {h h':Heap} {a:Addr} {o:HO}
end
section
variable {P:Program} {w:World} {H:Hp} {h h':Heap} {x e:Addr} {o':HO}
end
section
variable {fs fs' ex ex':List Addr} {H H1 H2:Hp} {h h1 h2 h':Heap} {a x e:Addr} {o:HO}
end
end L2
namespace L2
open PySem PySem.Spec PyProof.Rows
section
variable {X:Cx} {pins:List (Addr × Obj)} {σ:List (Option V)} {H H':Hp} {s:Shared} {h':Heap}
end
end L2
namespace L2
open PySem PySem.Spec PyProof.Rows
section
variable {X:Cx}
variable {a b:Expr} {ta tb:TE} {pos:Pos}
variable {tA tB':TT} {rest:List Expr}
end
end L2
namespace L2
open PySem PySem.Spec PyProof.Rows
section
variable {X:Cx} {pins:List (Addr × Obj)} {σ:St} {H:Hp} {s:Shared} {a:Addr} {xs ys:List V}
end
section
variable {X:Cx} {pins:List (Addr × Obj)} {σ:St} {H:Hp} {s:Shared} {E:Value→Shared→Prop}
end
section
variable {X:Cx} {st:Stmt} {rest:List Stmt} {t u:TS} {e:Expr} {te:TE} {pos:Pos}
end
section
variable {X:Cx} {pos:Pos}
end
section
variable {X:Cx} {pos:Pos}
end
end L2
namespace L2
open PySem PySem.Spec PyProof.Rows
section
variable {X:Cx} {tg:Expr}
end
end L2
namespace L2
open PySem PySem.Spec PyProof.Rows
section
variable {X:Cx} {a b c:Expr} {ta tb tc:TE} {pos:Pos}
end
section
variable {X:Cx} {a b c:Expr} {ta tb tc:TE} {pos:Pos}
end
end L2
namespace L2
open PySem PySem.Spec PyProof.Rows
section
variable {prog:Program} {w:World} {A:Around} {E:Value→Shared→Prop} {s:Shared} {K:PySem.W.Frag} {x dx C f:Addr} {mA:Str→Option Value} {name:Str} {v:Value}
end
section
variable {P:Program} {w:World} {H H':Hp} {h h':Heap} {a C dx:Addr} {fs fs':List (Str × V)}
end
section
variable {X:Cx} {pins:List (Addr × Obj)} {σ:St} {H:Hp} {s:Shared} {a C dx:Addr} {fs:List (Str × V)} {f:Str} {v:V} {A:Around} {E:Value→Shared→Prop}
end
section
variable {X:Cx} {o e value:Expr} {f:Str} {pos pos' tpos:Pos} {ta tv:TE}
end
section
variable {X:Cx} {pins:List (Addr × Obj)} {σ:St} {H:Hp} {s:Shared} {A:Around} {E:Value→Shared→Prop} {Q:Value→Shared→Prop} {c:Value} {b:Bool}
end
end L2
namespace L2
open PySem PySem.Spec PyProof.Rows
section
variable {X:Cx} {e:Expr} {es:List Expr} {te:TE} {t:TA} {pos:Pos}
end
section
variable {X:Cx} {pins:List (Addr × Obj)} {σ:St} {H:Hp} {s s':Shared}
end
section
variable {X:Cx} {CX:CXT} {k:Nat} {f C:Addr} {fd:FuncData} {ps:List Str} {sp:Sp} {dvs:List V} {ds:List Value} {E:XK} {x m:Str} {p pos apos:Pos} {e o:Expr} {es:List Expr} {ta:TE} {t:TA}
end
section
variable {X:Cx} {CX:CXT} {k:Nat} {f C:Addr} {fd:FuncData} {ps ks:List Str} {sp:Sp} {E:XK} {x m:Str} {p pos apos kpos:Pos} {e o:Expr} {es:List Expr} {kws:List Keyword} {te ta:TE} {t tk:TA} {nm:Option Str}
variable {g:List Value→List Value→List Value} {gV:List V→List V→List V}
end
end L2
namespace L2
open PySem PySem.Spec PyProof.Rows
section
variable {X:Cx} {x:Str} {p pos:Pos} {e:Expr} {es:List Expr} {t:TA} {id T:String} {r:List V→Hp→VK→Prop}
end
end L2
namespace L2
open PySem PySem.Spec PyProof.Rows
section
variable {κ:Type} [DecidableEq κ]
theorem KV.length {kvs:List (κ × V)} {vs:List (κ × Value)} (r:KV kvs vs):kvs.length=vs.length:=Paired.length r
end
section
variable {P:Program} {w:World} {H:Hp} {h:Heap} {a:Addr}
end
section
variable {X:Cx} {pins:List (Addr × Obj)} {σ:St} {H:Hp} {s:Shared} {a:Addr} {y v:V} {u r:Value} {o:Option V} {A:Around} {E:Value→Shared→Prop}
end
section
variable {X:Cx} {pins:List (Addr × Obj)} {σ:St} {H:Hp} {s:Shared} {a:Addr} {kvs:List (Key × V)} {k:Key} {u:Value} {A:Around} {E:Value→Shared→Prop}
end
section
variable {X:Cx} {o i e value:Expr} {pos pos' tpos:Pos} {td ty tv:TE}
end
section
variable {X:Cx} {pos:Pos}
end
structure M1 (X:Cx) (o:Expr) (m:Str) (apos:Pos) (e:Expr) (cpos:Pos):Prop where
 base:attributeBase o m X.env (eval o X.env)=eval o X.env
 few:((backTo cpos (starEach [e] X.env)).all (fun x => !x.1) && (backToKw cpos (keywordEach [] X.env)).all (fun x=>x.1.isSome)
  && decide (([e]:List Expr).length + ([]:List Keyword).length + (if ([]:List Keyword).isEmpty then 0 else 1) < 30))=true
 line:(apos.endLine == cpos.line)=true
 trees:backTo cpos (starEach [e] X.env)=[(false,eval e X.env)]
structure M2 (X:Cx) (o:Expr) (m:Str) (apos:Pos) (e f:Expr) (cpos:Pos):Prop where
 base:attributeBase o m X.env (eval o X.env)=eval o X.env
 few:((backTo cpos (starEach [e,f] X.env)).all (fun x => !x.1) && (backToKw cpos (keywordEach [] X.env)).all (fun x=>x.1.isSome)
  && decide (([e,f]:List Expr).length + ([]:List Keyword).length + (if ([]:List Keyword).isEmpty then 0 else 1) < 30))=true
 line:(apos.endLine == cpos.line)=true
 trees:backTo cpos (starEach [e,f] X.env)=[(false,eval e X.env),(false,eval f X.env)]
section
variable {X:Cx} {pins:List (Addr × Obj)} {σ:St} {H:Hp} {s:Shared} {a:Addr} {y d:V} {u r:Value} {o:Option V} {A:Around} {E:Value→Shared→Prop}
end
section
variable {X:Cx} {o e f:Expr} {apos cpos:Pos} {td ty tx:TE}
end
section
variable {X:Cx} {pins:List (Addr × Obj)} {σ:St} {H:Hp} {s:Shared} {a:Addr} {kvs:List (Key × V)} {A:Around} {E:Value→Shared→Prop}
end
section
variable {X:Cx} {pins:List (Addr × Obj)} {σ:St} {H:Hp} {s:Shared} {a:Addr} {y:V} {u:Value} {A:Around} {E:Value→Shared→Prop}
end
end L2
namespace Att
open PySem PySem.W PySem.Calls PyProof.Rows
section
variable {prog:Program} {w:World} {A:Around} {E:Value→Shared→Prop} {s:Shared} {K:Frag}
end
end Att
namespace L2
open PySem PySem.Spec PyProof.Rows
end L2
namespace L2
open PySem PySem.Spec PyProof.Rows
end L2
namespace L2
open PySem PySem.Spec PyProof.Rows
section
variable {P:Program} {w:World} {K:PySem.W.Frag} {mg:Str→Option Value} {base:Heap}
end
section
variable {X:Cx}
end
section
variable {κ:Type} [DecidableEq κ]
end
end L2
set_option Elab.async false
set_option linter.all false
set_option maxRecDepth 100000
set_option maxHeartbeats 4000000
namespace L2
open PySem PySem.Spec PyProof.Rows
section
variable {X:Cx} {st:Stmt} {rest:List Stmt} {t u:TS}
def J3 (t u:TS):TS:=fun D σ H => ∃ R:St→Hp→Prop,t { D with nx:=R } σ H ∧ ∀ σ' H',R σ' H'→u D σ' H'
theorem Gj (h1:PS X st t) (h2:PSs X rest u):PSs X (st :: rest) (J3 t u):=by
 rintro pins s σ H D I ⟨R,h,hR⟩
 refine wpAny_execs_cons (thn (h1 pins s σ H { D with nx:=R } I h) fun f s1 q=>?_)
 cases f with
 | next =>
  obtain ⟨σ',H',I',q⟩:=q
  exact h2 pins s1 σ' H' D I' (hR _ _ q)
 | ret v=>exact q
 | brk=>exact q
 | cont=>exact q
def tEc (t:TE):TE:=fun σ H Q => ∃ R:VK,t σ H R ∧ ∀ v H',R v H'→Q v H'
theorem wF {e:Expr} {t:TE} (h:PE X e t):PE X e (tEc t):=by
 rintro pins s σ H Q I ⟨R,q,hR⟩
 exact thn (h pins s σ H R I q) fun v s1 ⟨x,H1,I1,r1,q1⟩=>⟨x,H1,I1,r1,hR _ _ q1⟩
theorem aD {CX:CXT} {x:Str} {sd:Stmt} {ps:List Str} {f:Addr} {fd:FuncData} {sp:Sp} {j k:Nat} {E:XK} {e:Expr} {es:List Expr} {p pos:Pos} {t:TA} (D:Tw.Df X.K X.mg x sd ps f fd) (F:aX X.prog X.w X.K X.mg X.base CX j f fd ps sp) (hj:j≤k) (hr:dN k X.A) (hx:mH CX X E) (hg:Gl X x)
  (ha:PA X (e :: es) t) (hdb:(x == ("__debug__" : Str))=false:=by decide) (he:starEach (e :: es) X.env=(false,eval e X.env) :: starEach es X.env:=by rfl) (hpl:(backTo pos (starEach es X.env)).any (·.1)=false:=by rfl) :
  PE X (.Call (.Name x p) (e :: es) [] pos) (Hb sp [] E t):=G5 (F.mono hj) hr hg D.m D.F.kp D.b .nil hx ha hdb he hpl
end
end L2
namespace Tw
open PySem L2
end Tw
set_option Elab.async false
set_option linter.all false
set_option maxRecDepth 100000
set_option maxHeartbeats 4000000
namespace Tw
theorem bN {ns:List Int} {k:Nat} {b:Int} (h:ns[k]?=some b):(ns.take (k + 1)).sum=(ns.take k).sum + b:=by
 rw [List.take_add_one,h]
 simp [List.sum_append]
theorem b8 {ns:List Int} (h:aU ns) (i:Nat) : ∀ j:Nat,i≤j→(ns.take i).sum≤(ns.take j).sum
 | 0,hj=>by
  have:i=0:=by omega
  subst this
  exact Int.le_refl _
 | j + 1,hj=>by
  by_cases e:i=j + 1
  ·subst e
   exact Int.le_refl _
  have:=b8 h i j (by omega)
  cases q:ns[j]? with
  | none =>
   rw [List.take_add_one,q]
   simp
   exact this
  | some b =>
   rw [bN q]
   have:=h b (List.mem_of_getElem? q)
   omega
theorem Fq : ∀ {ns:List Int},aU ns→blk ns < 2 ^ ns.length
 | [],_=>by simp [blk]
 | b :: r,h=>by
  have:=Fq h.tail
  have:=h.head
  rw [List.length_cons,Int.pow_succ]
  simp only [blk]
  omega
theorem zc : ∀ l:List Int,blk (l.map fun x=>1 - x)=2 ^ l.length - 1 - blk l
 | []=>by simp [blk]
 | x :: l=>by
  rw [List.map_cons,List.length_cons,Int.pow_succ]
  simp only [blk]
  rw [zc l]
  omega
theorem yQ : ∀ (l:List Int) (k:Nat),k≤l.length→((l.map fun x=>1 - x).take k).sum=k - (l.take k).sum
 | _,0,_=>by simp
 | [],k + 1,h=>by simp at h
 | x :: l,k + 1,h=>by
  have:=yQ l k (by simpa using h)
  rw [List.map_cons,List.take_succ_cons,List.take_succ_cons,List.sum_cons,List.sum_cons,this]
  omega
theorem turned {b:Int} (h0:0≤b) (h1:b < 2 ^ 32):(∀ k:Nat,k < 32→bit (2 ^ 32 - 1 - b) k=1 - bit b k) ∧ ∀ k:Nat,k≤32→ones (2 ^ 32 - 1 - b) k=k - ones b k:=by
 have hb:=yq b 32
 have e:=xP 32 b h0 h1
 have hl:=bY b 32
 have ht:aU ((bits b 32).map fun x=>1 - x):=fun x hx=>by
  obtain ⟨y,hy,rfl⟩:=List.mem_map.mp hx
  have:=hb y hy
  omega
 have et:blk ((bits b 32).map fun x=>1 - x)=2 ^ 32 - 1 - b:=by rw [zc,hl,e]
 refine ⟨fun k hk=>?_,fun k hk=>?_⟩
 ·rw [← et,qY ht,List.getElem?_map,oJ hk]
  rfl
 ·rw [← et,lC ht,yQ _ _ (by omega),← lC hb,e]
theorem Fo (b t:Int) (ht:0≤t) : ∀ n:Nat,t < ones b n → ∃ k,k < n∧bit b k=1∧ones b k=t
 | 0,h=>by
  rw [pC] at h
  omega
 | n + 1,h=>by
  by_cases c:t < ones b n
  ·obtain ⟨k,h1,h2⟩:=Fo b t ht n c
   exact ⟨k,by omega,h2⟩
  ·rw [lG] at h
   have hb:bit b n=0∨bit b n=1:=by
    unfold bit
    omega
   exact ⟨n,by omega,by omega,by omega⟩
end Tw
set_option Elab.async false
set_option linter.all false
set_option maxRecDepth 100000
set_option maxHeartbeats 4000000
namespace Tw
theorem dO : ∀ (l:List Int) (u:Int),aU (brk l u)
 | [],u=>fun b hb=>.inl (List.eq_of_mem_replicate hb)
 | d :: r,u=>fun b hb=>by
  simp only [brk,List.mem_append,List.mem_cons] at hb
  rcases hb with hb | rfl | hb
  ·exact .inl (List.eq_of_mem_replicate hb)
  ·exact .inr rfl
  ·exact dO r _ b hb
theorem Es {ns:List Int} {k:Nat} {b:Int} (h:ns[k]?=some b):(ns.take (k + 1)).sum=(ns.take k).sum + b:=by
 rw [List.take_add_one,h]
 simp
theorem xg {ds:List Int} (hg:bC ds) : ∀ k:Nat,k≤(brk ds 0).length → ∃ nd:Nat,nd≤ds.length∧nd≤k∧((brk ds 0).take k).sum=nd∧(brk ds 0).drop k=brk (ds.drop nd) (ht (brk ds 0) k)∧Dp (ds.drop nd) (ht (brk ds 0) k)
 | 0,_=>⟨0,Nat.zero_le _,Nat.le_refl _,rfl,by rw [eU]; rfl,by rw [eU]; exact hg.dp⟩
 | k + 1,hk=>by
  obtain ⟨nd,h1,h2,h3,h4,h5⟩:=xg hg k (by omega)
  have hg1:(brk ds 0)[k]?=some (brk ds 0)[k]:=List.getElem?_eq_getElem (by omega)
  have e1:(brk ds 0).drop k=(brk ds 0)[k] :: (brk ds 0).drop (k + 1):=List.drop_eq_getElem_cons (by omega)
  rw [e1] at h4
  have hh:=dC hg1
  have hs:=Es hg1
  rcases zg h5 h4.symm with ⟨z,_,e2,d2⟩ | ⟨r,e0,z,e2,d2⟩
  ·rw [z] at hh hs
   refine ⟨nd,h1,by omega,by omega,?_,?_⟩
   ·rw [hh,e2]
    congr 1
    omega
   ·rw [hh,show ht (brk ds 0) k + 2 * 0 - 1=ht (brk ds 0) k - 1 from by omega]
    exact d2
  ·rw [z] at hh hs
   have hlt:nd < ds.length:=by
    have:=congrArg List.length e0
    rw [List.length_drop,List.length_cons] at this
    omega
   have ed:ds.drop (nd + 1)=r:=by
    have:ds.drop (nd + 1)=(ds.drop nd).drop 1:=by rw [List.drop_drop]
    rw [this,e0]
    rfl
   have eh:ht (brk ds 0) k + 2 * 1 - 1=ht (brk ds 0) k + 1:=by omega
   refine ⟨nd + 1,hlt,by omega,by omega,?_,?_⟩
   ·rw [hh,eh,ed]
    exact e2
   ·rw [hh,eh,ed]
    exact d2
theorem lH {ds:List Int} (hg:bC ds):(brk ds 0).length=2 * ds.length:=by
 rw [jk hg.dp]
 show 0 + _=_
 omega
theorem sH {ds:List Int} (hg:bC ds) {k:Nat} (hk:k < (brk ds 0).length):((brk ds 0)[k]?=some 0∧0 < ht (brk ds 0) k)∨((brk ds 0)[k]?=some 1 ∧ ∃ nd:Nat,((brk ds 0).take k).sum=nd∧nd < ds.length∧ds[nd]?=some (ht (brk ds 0) k)):=by
 obtain ⟨nd,h1,h2,h3,h4,h5⟩:=xg hg k (by omega)
 have hg1:(brk ds 0)[k]?=some (brk ds 0)[k]:=List.getElem?_eq_getElem (by omega)
 have e1:(brk ds 0).drop k=(brk ds 0)[k] :: (brk ds 0).drop (k + 1):=List.drop_eq_getElem_cons (by omega)
 rw [e1] at h4
 rcases zg h5 h4.symm with ⟨z,u,e2,d2⟩ | ⟨r,e0,z,e2,d2⟩
 ·exact .inl ⟨by rw [hg1,z],by omega⟩
 ·refine .inr ⟨by rw [hg1,z],nd,h3,?_,?_⟩
  ·have:=congrArg List.length e0
   rw [List.length_drop,List.length_cons] at this
   omega
  ·have:=List.getElem?_drop (xs:=ds) (i:=nd) (j:=0)
   rw [e0] at this
   exact this.symm
theorem nO {ds:List Int} (hg:bC ds):Tree (brk ds 0):=by
 have hl:=lH hg
 have h0:0 < ds.length:=(List.getElem?_eq_some_iff.mp hg.1).1
 refine ⟨by omega,?_,fun k k0 k1=>?_⟩
 ·obtain ⟨nd,h1,h2,h3,h4,h5⟩:=xg hg _ (Nat.le_refl _)
  rw [List.drop_length] at h4
  exact (GF h5 h4.symm).2
 ·rcases sH hg k1 with ⟨_,z⟩ | ⟨_,nd,e1,e2,e3⟩
  ·exact z
  ·obtain ⟨_,_,_,_,_,h5⟩:=xg hg k (by omega)
   have hp:=h5.pos
   rcases Nat.eq_zero_or_pos nd with rfl | z
   ·unfold ht at hp
    omega
   ·have:=hg.one z e3
    omega
theorem Gw {ds:List Int} (hg:bC ds) {k:Nat} (hk:(brk ds 0).length≤k):((brk ds 0).take k).sum=ds.length:=by
 have h:=(nO hg).2.1
 have hl:=lH hg
 unfold ht at h
 rw [List.take_length] at h
 rw [List.take_of_length_le hk]
 omega
theorem qj {ds:List Int} (hg:bC ds):(brk ds 0).sum=ds.length:=by
 have:=Gw hg (k:=(brk ds 0).length) (Nat.le_refl _)
 rw [List.take_length] at this
 exact this
theorem yI {ds:List Int} (hg:bC ds) {i p:Nat} (h1:(brk ds 0)[p]?=some 1) (h2:((brk ds 0).take p).sum=(i:Int)):ds[i]?=some (ht (brk ds 0) p):=by
 have hp:=(List.getElem?_eq_some_iff.mp h1).1
 rcases sH hg hp with ⟨z,_⟩ | ⟨_,nd,n1,n2,n3⟩
 ·rw [z] at h1
  cases h1
 ·have:nd=i:=by omega
  subst this
  exact n3
end Tw
set_option Elab.async false
set_option linter.all false
set_option maxRecDepth 100000
set_option maxHeartbeats 4000000
namespace Tw
structure Pair (ns:List Int) (a b:Nat):Prop where
 lt:a < b
 ltn:b < ns.length
 one:ns[a]?=some 1
 nought:ns[b]?=some 0
 eq:ht ns (b + 1)=ht ns a
 above : ∀ k,a < k→k≤b→ht ns a < ht ns k
theorem nC {ns:List Int} (hb:aU ns) {a k:Nat} (h1:ns[a]?=some 1) (f:dJ ns a ns.length (ht ns a) (k + 1)):Pair ns a k:=by
 obtain ⟨f1,f2,f3,f4⟩:=f
 have e:=dC h1
 have hak:a < k:=by
  rcases Nat.lt_or_ge a k with z | z
  ·exact z
  ·have:k=a:=by omega
   subst this
   omega
 have up:=f4 k hak (by omega)
 rcases Aw hb (show k < ns.length by omega) with ⟨z1,z2⟩ | ⟨z1,z2⟩
 ·omega
 ·exact ⟨hak,by omega,h1,z1,by omega,fun i i1 i2=>f4 i i1 (by omega)⟩
theorem oN {ns:List Int} (hb:aU ns) {a k:Nat} {g:Int} (hg:g < ht ns a) (ha:a≤ns.length) (f:oZ ns a g k):ns[k]?=some 1∧ht ns k=g ∧ ∀ i,k < i→i≤a→g < ht ns i:=by
 obtain ⟨f1,f2,f3⟩:=f
 have up : ∀ i,k < i→i≤a→g < ht ns i:=fun i i1 i2=>by
  rcases Nat.lt_or_ge i a with z | z
  ·exact f3 i i1 z
  ·have:i=a:=by omega
   rw [this]
   exact hg
 have:=up (k + 1) (by omega) (by omega)
 rcases Aw hb (show k < ns.length by omega) with ⟨z1,z2⟩ | ⟨z1,z2⟩
 ·exact ⟨z1,by omega,up⟩
 ·omega
theorem wU {ns:List Int} (hb:aU ns) {a k:Nat} (h1:ns[a]?=some 0) (f:oZ ns a (ht ns a - 1) k):Pair ns k a:=by
 have ha:=(List.getElem?_eq_some_iff.mp h1).1
 obtain ⟨g1,g2,g3⟩:=oN hb (by omega) (Nat.le_of_lt ha) f
 have e:=dC h1
 exact ⟨f.1,ha,g1,h1,by omega,fun i i1 i2=>by have:=g3 i i1 i2; omega⟩
end Tw
set_option Elab.async false
set_option linter.all false
set_option maxRecDepth 100000
set_option maxHeartbeats 4000000
namespace Tw
open PySem L2
theorem FT (ns:List Int) (n:Nat):ahd ns n=(List.range n).map (fun k=>(ns.take (32 * k)).sum) ++ [(ns.take (32 * n)).sum]:=by
 unfold ahd
 rw [List.range_succ,List.map_append]
 rfl
def UpN (ds:List Int) (j:Nat) (g:Int) (i:Nat):Prop:=i≤j∧ds[i]?=some g ∧ ∀ m x,i < m→m≤j→ds[m]?=some x→g < x
theorem UpN.uniq {ds:List Int} {j i i':Nat} {g:Int} (h:UpN ds j g i) (h':UpN ds j g i'):i=i':=by
 obtain ⟨a1,a2,a3⟩:=h
 obtain ⟨b1,b2,b3⟩:=h'
 rcases Nat.lt_trichotomy i i' with z | z | z
 ·have:=a3 i' g z b1 b2
  omega
 ·exact z
 ·have:=b3 i g z a1 a2
  omega
theorem UpN.trans {ds:List Int} {j i e:Nat} {g:Int} (h:UpN ds j g i) (h':UpN ds i (g - 1) e):UpN ds j (g - 1) e:=by
 obtain ⟨a1,a2,a3⟩:=h
 obtain ⟨b1,b2,b3⟩:=h'
 refine ⟨by omega,b2,fun m x m1 m2 e=>?_⟩
 rcases Nat.lt_or_ge i m with z | z
 ·have:=a3 m x z m2 e
  omega
 ·exact b3 m x m1 z e
def ElV (ds:List Int) (k:Nat) (v:V):Prop:=(k=0∧v=.non) ∨ ∃ (e:Nat) (d:Int),v=.int (e:Int)∧ds[k]?=some d∧1≤d∧UpN ds k (d - 1) e
theorem cP {ds:List Int} (hg:bC ds) {i:Nat} {d:Int} (h:ds[i]?=some d):0≤d:=by
 rcases Nat.eq_zero_or_pos i with z | z
 ·subst z
  rw [hg.1] at h
  have:=Option.some.inj h
  omega
 ·have:=hg.one z h
  omega
theorem Ik {ns:List Int} (hb:aU ns) {m:Nat} (h:(m:Int) < ns.sum) : ∃ p,ns[p]?=some 1∧(ns.take p).sum=(m:Int):=by
 have : ∀ n:Nat,n≤ns.length→(m:Int) < (ns.take n).sum → ∃ p,ns[p]?=some 1∧(ns.take p).sum=(m:Int):=by
  intro n
  induction n with
  | zero =>
   intro _ z
   rw [List.take_zero] at z
   have:([]:List Int).sum=0:=rfl
   omega
  | succ n ih =>
   intro hn z
   have e:=List.getElem?_eq_getElem (show n < ns.length by omega)
   rw [bN e] at z
   by_cases c:(m:Int) < (ns.take n).sum
   ·exact ih (by omega) c
   ·rcases hb _ (List.getElem_mem (show n < ns.length by omega)) with y | y
    ·omega
    ·rw [y] at e z
     exact ⟨n,e,by omega⟩
 exact this ns.length (Nat.le_refl _) (by rw [List.take_length]; exact h)
theorem UpN.self {ds:List Int} {j:Nat} {d:Int} (h:ds[j]?=some d):UpN ds j d j:=⟨Nat.le_refl _,h,fun m x m1 m2=>by omega⟩
def run (ds:List Int) (k:Nat) (g:Int):Nat:=((ds.drop k).takeWhile fun x=>decide (g < x)).length
theorem uV {ds:List Int} {k:Nat} {x:Int} (h:ds[k]?=some x):ds.drop k=x :: ds.drop (k + 1):=by
 have hk:=(List.getElem?_eq_some_iff.mp h)
 rw [List.drop_eq_getElem_cons hk.1,hk.2]
theorem wR {ds:List Int} {k:Nat} {g x:Int} (h:ds[k]?=some x) (hx:g < x):run ds k g=run ds (k + 1) g + 1:=by
 unfold run
 rw [uV h,List.takeWhile_cons,if_pos (decide_eq_true hx),List.length_cons]
theorem BK {ds:List Int} {k:Nat} {g x:Int} (h:ds[k]?=some x) (hx : ¬ g < x):run ds k g=0:=by
 unfold run
 rw [uV h,List.takeWhile_cons,if_neg (fun z=>hx (of_decide_eq_true z))]
 rfl
theorem BJ {ds:List Int} {k:Nat} {g:Int} (h:ds.length≤k):run ds k g=0:=by
 unfold run
 rw [List.drop_eq_nil_of_le h]
 rfl
theorem um {ds:List Int} {g:Int} : ∀ (n k:Nat),(∀ m,m < n → ∃ x,ds[k + m]?=some x∧g < x)→(∀ x,ds[k + n]?=some x → ¬ g < x)→run ds k g=n
 | 0,k,_,h=>by
  cases e:ds[k]? with
  | none=>exact BJ (List.getElem?_eq_none_iff.mp e)
  | some x=>exact BK e (h x (by rw [Nat.add_zero]; exact e))
 | n + 1,k,h1,h2=>by
  obtain ⟨x,e,hx⟩:=h1 0 (by omega)
  rw [Nat.add_zero] at e
  rw [wR e hx,um n (k + 1) (fun m hm=>by
   obtain ⟨y,e,hy⟩:=h1 (m + 1) (by omega)
   exact ⟨y,by rw [← e]; congr 1; omega,hy⟩) (fun y e=>h2 y (by rw [← e]; congr 1; omega))]
theorem nG {ds:List Int} {g:Int} : ∀ (n k:Nat),run ds k g=n→(∀ m,m < n → ∃ x,ds[k + m]?=some x∧g < x)∧(∀ x,ds[k + n]?=some x → ¬ g < x)
 | 0,k,h=>by
  refine ⟨fun m hm=>absurd hm (Nat.not_lt_zero _),fun x e hx=>?_⟩
  rw [Nat.add_zero] at e
  rw [wR e hx] at h
  omega
 | n + 1,k,h=>by
  cases e:ds[k]? with
  | none =>
   rw [BJ (List.getElem?_eq_none_iff.mp e)] at h
   omega
  | some x =>
   by_cases hx:g < x
   ·rw [wR e hx] at h
    obtain ⟨a,b⟩:=nG (ds:=ds) (g:=g) n (k + 1) (by omega)
    refine ⟨fun m hm=>?_,fun y e=>b y (by rw [← e]; congr 1; omega)⟩
    rcases Nat.eq_zero_or_pos m with z | z
    ·subst z
     exact ⟨x,e,hx⟩
    ·obtain ⟨y,e,hy⟩:=a (m - 1) (by omega)
     exact ⟨y,by rw [← e]; congr 1; omega,hy⟩
   ·rw [BK e hx] at h
    omega
theorem HQ {ds:List Int} {k:Nat} {g:Int} (h:k≤ds.length):k + run ds k g≤ds.length:=by
 rcases Nat.eq_zero_or_pos (run ds k g) with z | z
 ·omega
 ·obtain ⟨x,e,_⟩:=(nG (ds:=ds) (g:=g) _ k rfl).1 (run ds k g - 1) (by omega)
  have:=(List.getElem?_eq_some_iff.mp e).1
  omega
theorem ym {ds:List Int} {i j:Nat} {d:Int} (hi:ds[i]?=some d) (hj:j < ds.length):UpN ds j d i ↔ i≤j∧j≤i + run ds (i + 1) d:=by
 obtain ⟨a,b⟩:=nG _ (i + 1) (rfl:run ds (i + 1) d=_)
 constructor
 ·rintro ⟨h1,h2,h3⟩
  refine ⟨h1,?_⟩
  rcases Nat.lt_or_ge (i + run ds (i + 1) d) j with z | z
  ·have e:=List.getElem?_eq_getElem (show i + 1 + run ds (i + 1) d < ds.length by omega)
   exact absurd (h3 _ _ (by omega) (by omega) e) (b _ e)
  ·exact z
 ·rintro ⟨h1,h2⟩
  refine ⟨h1,hi,fun m x m1 m2 e=>?_⟩
  obtain ⟨y,ey,hy⟩:=a (m - (i + 1)) (by omega)
  rw [show i + 1 + (m - (i + 1))=m from by omega,e] at ey
  rw [Option.some.inj ey]
  exact hy
end Tw
set_option Elab.async false
set_option linter.all false
set_option maxRecDepth 100000
set_option maxHeartbeats 4000000
namespace L2
open PySem PySem.Spec PyProof.Rows
def IV (i:Nat) (f:Addr) (sp:Sp) (E:XK) (t:TA):TE:=fun σ H Q=>σ[i]?=some (some (.ref f))∧t σ H fun vs H1=>sp vs H1 Q E
theorem yW {X:Cx} {CX:CXT} {j k i:Nat} {f:Addr} {fd:FuncData} {ps:List Str} {sp:Sp} {E:XK} {x:Str} {p pos:Pos} {e:Expr} {es:List Expr} {t:TA} (F:aX X.prog X.w X.K X.mg X.base CX j f fd ps sp) (hj:j≤k) (hr:dN k X.A) (hx:mH CX X E) (hi:X.N[i]?=some x) (hk:PySem.W.keepIn X.K (.ref f)=true) (hb:Binds X.K fd ps []) (ha:PA X (e :: es) t)
  (hv:Vis X.env.scope x:=by first | exact Or.inl rfl | exact Or.inr (Or.inl rfl) | exact Or.inr (Or.inr rfl)) (hd:(x == ("__debug__" : Str))=false:=by decide) (hcd:(x == ("__classdict__" : Str))=false:=by decide)
  (he:starEach (e :: es) X.env=(false,eval e X.env) :: starEach es X.env:=by rfl) (hpl:(backTo pos (starEach es X.env)).any (·.1)=false:=by rfl):PE X (.Call (.Name x p) (e :: es) [] pos) (IV i f sp E t):=by
 intro pins s σ H Q I h
 obtain ⟨hs,h⟩:=h
 refine wpAny_Call_Name_kw (thn (wI hi hv hd hcd pins s σ H (fun v H'=>v=.ref f∧H'=H) I ⟨_,hs,rfl,rfl⟩) fun u s1 hu=>?_)
 obtain ⟨v,H1,I1,rv,rfl,rfl⟩:=hu
 obtain rfl:u=Value.ref f:=rv
 refine PySem.W.callWith_K (h₀:=X.base) I1.ok.mod.kin hk (thn (ha pos pins s1 σ H1 _ I1 h) fun us s2 ⟨vs,H2,I2,r,q⟩=>⟨I2.kIn,?_⟩) he hpl
 exact Ge (F.mono hj) hr hb .nil hx I2 r (by rw [List.append_nil]; exact q)
end L2
set_option Elab.async false
set_option maxRecDepth 100000
set_option maxHeartbeats 4000000
namespace Tw
open PySem L2
def top (i:Nat):Stmt:=PySem.Challenge.pw_thinwood_k90_whole_tree_opened.main.body.getD i (.Pass ⟨0,0,0,0⟩)
abbrev sO:Stmt:=top 11
theorem DR:aC ["bits"] ["bits"] (defScope sO):=⟨rfl,rfl,rfl,by decide +kernel,rfl,by decide +kernel,by decide +kernel⟩
abbrev lr:Stmt:=top 12
theorem ou:aC ["bits", "bit"] ["bits"] (defScope lr):=⟨rfl,rfl,rfl,by decide +kernel,rfl,by decide +kernel,by decide +kernel⟩
abbrev mV:Stmt:=top 13
theorem gR:aC ["bits", "block", "bit"] ["bits"] (defScope mV):=⟨rfl,rfl,rfl,by decide +kernel,rfl,by decide +kernel,by decide +kernel⟩
abbrev mL:Stmt:=top 14
theorem j8:aC ["blocks", "many", "bits", "block"] ["blocks", "many"] (defScope mL):=⟨rfl,rfl,rfl,by decide +kernel,rfl,by decide +kernel,by decide +kernel⟩
abbrev tX:Stmt:=top 15
theorem Dq:aC ["block", "k"] ["block", "k"] (defScope tX):=⟨rfl,rfl,rfl,by decide +kernel,rfl,by decide +kernel,by decide +kernel⟩
abbrev pK:Stmt:=top 16
theorem zY:aC ["block", "upto"] ["block", "upto"] (defScope pK):=⟨rfl,rfl,rfl,by decide +kernel,rfl,by decide +kernel,by decide +kernel⟩
abbrev oW:Stmt:=top 17
theorem Ai:aC ["block", "upto"] ["block", "upto"] (defScope oW):=⟨rfl,rfl,rfl,by decide +kernel,rfl,by decide +kernel,by decide +kernel⟩
abbrev uc:Stmt:=top 18
theorem jf:aC ["block", "nth", "ones", "k", "bit"] ["block", "nth"] (defScope uc):=⟨rfl,rfl,rfl,by decide +kernel,rfl,by decide +kernel,by decide +kernel⟩
abbrev qg:Stmt:=top 19
theorem gq:aC ["block", "upto", "nets", "net", "bit"] ["block", "upto"] (defScope qg):=⟨rfl,rfl,rfl,by decide +kernel,rfl,by decide +kernel,by decide +kernel⟩
abbrev sY:Stmt:=top 20
theorem Dv:aC ["block", "upto"] ["block", "upto"] (defScope sY):=⟨rfl,rfl,rfl,by decide +kernel,rfl,by decide +kernel,by decide +kernel⟩
abbrev gr:Stmt:=top 21
theorem fO:aC ["block", "start", "stop", "goal", "k", "net"] ["block", "start", "stop", "goal"] (defScope gr):=⟨rfl,rfl,rfl,by decide +kernel,rfl,by decide +kernel,by decide +kernel⟩
abbrev iI:Stmt:=top 22
theorem cZ:aC ["block", "start", "stop", "goal", "found", "k", "net"] ["block", "start", "stop", "goal"] (defScope iI):=⟨rfl,rfl,rfl,by decide +kernel,rfl,by decide +kernel,by decide +kernel⟩
abbrev dm:Stmt:=top 23
theorem mQ:aC ["blocks", "kept", "look"] ["blocks"] (defScope dm):=⟨rfl,rfl,rfl,by decide +kernel,rfl,by decide +kernel,by decide +kernel⟩
abbrev j4:Stmt:=top 25
theorem eQ:aC ["number", "many", "octets", "rest", "k"] ["number", "many"] (defScope j4):=⟨rfl,rfl,rfl,by decide +kernel,rfl,by decide +kernel,by decide +kernel⟩
abbrev kY:Stmt:=top 26
theorem gk:aC ["octets", "number", "octet"] ["octets"] (defScope kY):=⟨rfl,rfl,rfl,by decide +kernel,rfl,by decide +kernel,by decide +kernel⟩
abbrev mU:Stmt:=top 28
theorem qC:aC ["bits", "blocks"] ["bits"] (defScope mU):=⟨rfl,rfl,rfl,by decide +kernel,rfl,by decide +kernel,by decide +kernel⟩
abbrev mO:Stmt:=top 29
theorem j9:aC ["blocks", "ahead", "block"] ["blocks"] (defScope mO):=⟨rfl,rfl,rfl,by decide +kernel,rfl,by decide +kernel,by decide +kernel⟩
abbrev iK:Stmt:=top 30
theorem t7:aC ["at", "most"] ["at", "most"] (defScope iK):=⟨rfl,rfl,rfl,by decide +kernel,rfl,by decide +kernel,by decide +kernel⟩
abbrev rD:Stmt:=top 31
theorem Ci:aC ["tables", "look", "at"] ["tables", "look", "at"] (defScope rD):=⟨rfl,rfl,rfl,by decide +kernel,rfl,by decide +kernel,by decide +kernel⟩
abbrev pI:Stmt:=top 32
theorem gH:aC ["tables", "look", "at", "many", "ahead", "number", "within"] ["tables", "look", "at"] (defScope pI):=⟨rfl,rfl,rfl,by decide +kernel,rfl,by decide +kernel,by decide +kernel⟩
abbrev kW:Stmt:=top 33
theorem jx:aC ["tables", "look", "nth", "ahead", "number"] ["tables", "look", "nth"] (defScope kW):=⟨rfl,rfl,rfl,by decide +kernel,rfl,by decide +kernel,by decide +kernel⟩
abbrev kh:Stmt:=top 34
theorem wg:aC ["nth", "many"] ["nth", "many"] (defScope kh):=⟨rfl,rfl,rfl,by decide +kernel,rfl,by decide +kernel,by decide +kernel⟩
abbrev eG:Stmt:=top 35
theorem bO:aC ["numbers", "goal", "low", "high", "middle"] ["numbers", "goal"] (defScope eG):=⟨rfl,rfl,rfl,by decide +kernel,rfl,by decide +kernel,by decide +kernel⟩
abbrev pF:Stmt:=top 38
theorem jl:aC ["numbers", "size", "nodes", "node"] ["numbers"] (defScope pF):=⟨rfl,rfl,rfl,by decide +kernel,rfl,by decide +kernel,by decide +kernel⟩
abbrev pN:Stmt:=top 39
theorem mG:aC ["many", "size"] ["many"] (defScope pN):=⟨rfl,rfl,rfl,by decide +kernel,rfl,by decide +kernel,by decide +kernel⟩
abbrev j5:Stmt:=top 40
theorem wY:aC ["one", "other"] ["one", "other"] (defScope j5):=⟨rfl,rfl,rfl,by decide +kernel,rfl,by decide +kernel,by decide +kernel⟩
abbrev mC:Stmt:=top 41
theorem xU:aC ["many", "look", "start", "stop"] ["many", "look", "start", "stop"] (defScope mC):=⟨rfl,rfl,rfl,by decide +kernel,rfl,by decide +kernel,by decide +kernel⟩
abbrev gb:Stmt:=top 42
theorem jc:aC ["many", "look", "start", "goal", "node"] ["many", "look", "start", "goal"] (defScope gb):=⟨rfl,rfl,rfl,by decide +kernel,rfl,by decide +kernel,by decide +kernel⟩
abbrev gG:Stmt:=top 43
theorem jO:aC ["many", "look", "stop", "goal", "node"] ["many", "look", "stop", "goal"] (defScope gG):=⟨rfl,rfl,rfl,by decide +kernel,rfl,by decide +kernel,by decide +kernel⟩
abbrev gf:Stmt:=top 44
theorem dz:aC ["size", "look", "node", "goal", "side", "found"] ["size", "look", "node", "goal", "side"] (defScope gf):=⟨rfl,rfl,rfl,by decide +kernel,rfl,by decide +kernel,by decide +kernel⟩
abbrev fV:Stmt:=top 45
theorem pR:aC ["many", "start", "stop"] ["many", "start", "stop"] (defScope fV):=⟨rfl,rfl,rfl,by decide +kernel,rfl,by decide +kernel,by decide +kernel⟩
abbrev wQ:Stmt:=top 46
theorem dH:aC ["many", "start", "stop", "size", "low", "high", "lefts", "rights"] ["many", "start", "stop"] (defScope wQ):=⟨rfl,rfl,rfl,by decide +kernel,rfl,by decide +kernel,by decide +kernel⟩
abbrev o4:Stmt:=top 48
theorem gO:aC ["bits", "level", "at", "bit"] ["bits"] (defScope o4):=⟨rfl,rfl,rfl,by decide +kernel,rfl,by decide +kernel,by decide +kernel⟩
abbrev fc:Stmt:=top 49
theorem nZ:aC ["bits"] ["bits"] (defScope fc):=⟨rfl,rfl,rfl,by decide +kernel,rfl,by decide +kernel,by decide +kernel⟩
abbrev fP:Stmt:=top 50
theorem cL:aC ["bits", "row", "tables", "blocks", "lows"] ["bits"] (defScope fP):=⟨rfl,rfl,rfl,by decide +kernel,rfl,by decide +kernel,by decide +kernel⟩
abbrev sG:Stmt:=top 51
theorem Ck:aC ["tables", "number", "block"] ["tables", "number", "block"] (defScope sG):=⟨rfl,rfl,rfl,by decide +kernel,rfl,by decide +kernel,by decide +kernel⟩
abbrev pq:Stmt:=top 52
theorem zq:aC ["tables", "number"] ["tables", "number"] (defScope pq):=⟨rfl,rfl,rfl,by decide +kernel,rfl,by decide +kernel,by decide +kernel⟩
abbrev gD:Stmt:=top 53
theorem qI:aC ["number", "at"] ["number", "at"] (defScope gD):=⟨rfl,rfl,rfl,by decide +kernel,rfl,by decide +kernel,by decide +kernel⟩
abbrev jF:Stmt:=top 54
theorem uv:aC ["number", "upto"] ["number", "upto"] (defScope jF):=⟨rfl,rfl,rfl,by decide +kernel,rfl,by decide +kernel,by decide +kernel⟩
abbrev iz:Stmt:=top 55
theorem tQ:aC ["tables"] ["tables"] (defScope iz):=⟨rfl,rfl,rfl,by decide +kernel,rfl,by decide +kernel,by decide +kernel⟩
abbrev cC:Stmt:=top 56
theorem m9:aC ["tables", "nodes"] ["tables"] (defScope cC):=⟨rfl,rfl,rfl,by decide +kernel,rfl,by decide +kernel,by decide +kernel⟩
abbrev tH:Stmt:=top 57
theorem CJ:aC ["tables", "look", "at"] ["tables", "look", "at"] (defScope tH):=⟨rfl,rfl,rfl,by decide +kernel,rfl,by decide +kernel,by decide +kernel⟩
abbrev rQ:Stmt:=top 58
theorem lF:aC ["tables", "look", "at", "upto", "first", "last", "lows"] ["tables", "look", "at", "upto"] (defScope rQ):=⟨rfl,rfl,rfl,by decide +kernel,rfl,by decide +kernel,by decide +kernel⟩
abbrev fZ:Stmt:=top 59
theorem iV:aC ["tables", "look", "number", "at", "upto", "nets"] ["tables", "look", "number", "at", "upto"] (defScope fZ):=⟨rfl,rfl,rfl,by decide +kernel,rfl,by decide +kernel,by decide +kernel⟩
abbrev jJ:Stmt:=top 60
theorem fJ:aC ["tables", "look", "at", "goal", "number", "found", "further"] ["tables", "look", "at", "goal"] (defScope jJ):=⟨rfl,rfl,rfl,by decide +kernel,rfl,by decide +kernel,by decide +kernel⟩
abbrev gQ:Stmt:=top 61
theorem fX:aC ["tables", "look", "number", "at", "goal", "start", "stop"] ["tables", "look", "number", "at", "goal"] (defScope gQ):=⟨rfl,rfl,rfl,by decide +kernel,rfl,by decide +kernel,by decide +kernel⟩
abbrev gF:Stmt:=top 62
theorem qL:aC ["number", "within"] ["number", "within"] (defScope gF):=⟨rfl,rfl,rfl,by decide +kernel,rfl,by decide +kernel,by decide +kernel⟩
abbrev kZ:Stmt:=top 63
theorem oA:aC ["tables", "look", "at", "goal", "found"] ["tables", "look", "at", "goal"] (defScope kZ):=⟨rfl,rfl,rfl,by decide +kernel,rfl,by decide +kernel,by decide +kernel⟩
abbrev fL:Stmt:=top 64
theorem dq:aC ["tables", "look", "upto", "goal", "number", "found", "further"] ["tables", "look", "upto", "goal"] (defScope fL):=⟨rfl,rfl,rfl,by decide +kernel,rfl,by decide +kernel,by decide +kernel⟩
abbrev iH:Stmt:=top 65
theorem kI:aC ["tables", "look", "number", "upto", "goal", "stop"] ["tables", "look", "number", "upto", "goal"] (defScope iH):=⟨rfl,rfl,rfl,by decide +kernel,rfl,by decide +kernel,by decide +kernel⟩
abbrev fQ:Stmt:=top 66
theorem pG:aC ["tables", "look", "at", "bit"] ["tables", "look", "at", "bit"] (defScope fQ):=⟨rfl,rfl,rfl,by decide +kernel,rfl,by decide +kernel,by decide +kernel⟩
abbrev qb:Stmt:=top 67
theorem zJ:aC ["tables", "look", "at"] ["tables", "look", "at"] (defScope qb):=⟨rfl,rfl,rfl,by decide +kernel,rfl,by decide +kernel,by decide +kernel⟩
abbrev p7:Stmt:=top 68
theorem Az:aC ["tables", "look", "at"] ["tables", "look", "at"] (defScope p7):=⟨rfl,rfl,rfl,by decide +kernel,rfl,by decide +kernel,by decide +kernel⟩
abbrev iJ:Stmt:=top 69
theorem sZ:aC ["tables", "look", "at", "pairs"] ["tables", "look", "at", "pairs"] (defScope iJ):=⟨rfl,rfl,rfl,by decide +kernel,rfl,by decide +kernel,by decide +kernel⟩
abbrev gw:Stmt:=top 72
theorem fW:aC ["depths", "ahead", "depth"] ["depths"] (defScope gw):=⟨rfl,rfl,rfl,by decide +kernel,rfl,by decide +kernel,by decide +kernel⟩
abbrev iu:Stmt:=top 73
theorem cY:aC ["depths", "bits", "unclosed", "depth"] ["depths"] (defScope iu):=⟨rfl,rfl,rfl,by decide +kernel,rfl,by decide +kernel,by decide +kernel⟩
abbrev lq:Stmt:=top 74
theorem eE:aC ["bits", "depths", "unclosed", "bit"] ["bits"] (defScope lq):=⟨rfl,rfl,rfl,by decide +kernel,rfl,by decide +kernel,by decide +kernel⟩
abbrev jV:Stmt:=top 75
theorem vR:aC ["depths"] ["depths"] (defScope jV):=⟨rfl,rfl,rfl,by decide +kernel,rfl,by decide +kernel,by decide +kernel⟩
abbrev jy:Stmt:=top 77
theorem uH:aC ["tables"] ["tables"] (defScope jy):=⟨rfl,rfl,rfl,by decide +kernel,rfl,by decide +kernel,by decide +kernel⟩
abbrev jw:Stmt:=top 78
theorem uD:aC ["tables", "node"] ["tables", "node"] (defScope jw):=⟨rfl,rfl,rfl,by decide +kernel,rfl,by decide +kernel,by decide +kernel⟩
abbrev ph:Stmt:=top 79
theorem Aa:aC ["tables", "look", "at"] ["tables", "look", "at"] (defScope ph):=⟨rfl,rfl,rfl,by decide +kernel,rfl,by decide +kernel,by decide +kernel⟩
abbrev mX:Stmt:=top 80
theorem xx:aC ["tables", "look", "node"] ["tables", "look", "node"] (defScope mX):=⟨rfl,rfl,rfl,by decide +kernel,rfl,by decide +kernel,by decide +kernel⟩
abbrev lZ:Stmt:=top 81
theorem yK:aC ["tables", "look", "node"] ["tables", "look", "node"] (defScope lZ):=⟨rfl,rfl,rfl,by decide +kernel,rfl,by decide +kernel,by decide +kernel⟩
abbrev m5:Stmt:=top 82
theorem yx:aC ["tables", "look", "node"] ["tables", "look", "node"] (defScope m5):=⟨rfl,rfl,rfl,by decide +kernel,rfl,by decide +kernel,by decide +kernel⟩
abbrev mj:Stmt:=top 83
theorem qF:aC ["tables", "look", "node", "behind"] ["tables", "look", "node"] (defScope mj):=⟨rfl,rfl,rfl,by decide +kernel,rfl,by decide +kernel,by decide +kernel⟩
abbrev jL:Stmt:=top 84
theorem lV:aC ["tables", "look", "node", "behind"] ["tables", "look", "node"] (defScope jL):=⟨rfl,rfl,rfl,by decide +kernel,rfl,by decide +kernel,by decide +kernel⟩
abbrev mY:Stmt:=top 85
theorem qy:aC ["tables", "look", "node", "ahead"] ["tables", "look", "node"] (defScope mY):=⟨rfl,rfl,rfl,by decide +kernel,rfl,by decide +kernel,by decide +kernel⟩
abbrev jD:Stmt:=top 86
theorem lY:aC ["tables", "look", "node", "at"] ["tables", "look", "node"] (defScope jD):=⟨rfl,rfl,rfl,by decide +kernel,rfl,by decide +kernel,by decide +kernel⟩
abbrev v9:Stmt:=top 87
theorem yP:aC ["tables", "look", "node", "steps", "at"] ["tables", "look", "node", "steps"] (defScope v9):=⟨rfl,rfl,rfl,by decide +kernel,rfl,by decide +kernel,by decide +kernel⟩
abbrev pW:Stmt:=top 88
theorem tG:aC ["tables", "look", "one", "other", "last"] ["tables", "look", "one", "other"] (defScope pW):=⟨rfl,rfl,rfl,by decide +kernel,rfl,by decide +kernel,by decide +kernel⟩
abbrev jU:Stmt:=top 89
theorem dX:aC ["tables", "look", "one", "other", "node", "first", "last", "depth"] ["tables", "look", "one", "other"] (defScope jU):=⟨rfl,rfl,rfl,by decide +kernel,rfl,by decide +kernel,by decide +kernel⟩
abbrev fD:Stmt:=top 94
theorem dW:aC ["numbers", "size", "octets", "number"] ["numbers", "size"] (defScope fD):=⟨rfl,rfl,rfl,by decide +kernel,rfl,by decide +kernel,by decide +kernel⟩
abbrev iw:Stmt:=top 95
theorem ul:aC ["blocks", "ahead"] ["blocks", "ahead"] (defScope iw):=⟨rfl,rfl,rfl,by decide +kernel,rfl,by decide +kernel,by decide +kernel⟩
abbrev iC:Stmt:=top 96
theorem cj:aC ["depths", "kept", "tables", "blocks", "first", "lows", "count"] ["depths"] (defScope iC):=⟨rfl,rfl,rfl,by decide +kernel,rfl,by decide +kernel,by decide +kernel⟩
abbrev lw:Stmt:=top 97
theorem vN:aC ["octets"] ["octets"] (defScope lw):=⟨rfl,rfl,rfl,by decide +kernel,rfl,by decide +kernel,by decide +kernel⟩
abbrev iM:Stmt:=top 98
theorem kO:aC ["octets", "kept"] ["octets"] (defScope iM):=⟨rfl,rfl,rfl,by decide +kernel,rfl,by decide +kernel,by decide +kernel⟩
abbrev oU:Stmt:=top 99
theorem mD:aC ["octets", "tell", "write", "told", "again"] ["octets", "tell", "write"] (defScope oU):=⟨rfl,rfl,rfl,by decide +kernel,rfl,by decide +kernel,by decide +kernel⟩
abbrev gA:Stmt:=top 100
theorem jM:aC ["octets", "octet"] ["octets"] (defScope gA):=⟨rfl,rfl,rfl,by decide +kernel,rfl,by decide +kernel,by decide +kernel⟩
abbrev kj:Stmt:=top 101
theorem wu:aC ["octets", "at", "size"] ["octets", "at", "size"] (defScope kj):=⟨rfl,rfl,rfl,by decide +kernel,rfl,by decide +kernel,by decide +kernel⟩
abbrev jE:Stmt:=top 102
theorem uK:aC ["octets", "at", "size", "many"] ["octets", "at", "size", "many"] (defScope jE):=⟨rfl,rfl,rfl,by decide +kernel,rfl,by decide +kernel,by decide +kernel⟩
abbrev il:Stmt:=top 103
theorem sV:aC ["many"] ["many"] (defScope il):=⟨rfl,rfl,rfl,by decide +kernel,rfl,by decide +kernel,by decide +kernel⟩
abbrev qi:Stmt:=top 104
theorem zQ:aC ["octets", "at", "many"] ["octets", "at", "many"] (defScope qi):=⟨rfl,rfl,rfl,by decide +kernel,rfl,by decide +kernel,by decide +kernel⟩
abbrev lB:Stmt:=top 105
theorem v8:aC ["octets"] ["octets"] (defScope lB):=⟨rfl,rfl,rfl,by decide +kernel,rfl,by decide +kernel,by decide +kernel⟩
abbrev iR:Stmt:=top 106
theorem su:aC ["octets"] ["octets"] (defScope iR):=⟨rfl,rfl,rfl,by decide +kernel,rfl,by decide +kernel,by decide +kernel⟩
abbrev j0:Stmt:=top 108
theorem wW:aC ["_law_found"] ["_law_found"] (defScope j0):=⟨rfl,rfl,rfl,by decide +kernel,rfl,by decide +kernel,by decide +kernel⟩
abbrev jC:Stmt:=top 109
theorem bL:aC ["_law_script", "_law_most", "_law_depths_here", "_law_cell", "_law_number", "_law_deep", "_law_many", "_law_k"] ["_law_script", "_law_most"] (defScope jC):=⟨rfl,rfl,rfl,by decide +kernel,rfl,by decide +kernel,by decide +kernel⟩
abbrev jm:Stmt:=top 110
theorem bZ:aC ["_law_depths_here", "_law_elders", "_law_olders", "_law_ends", "_law_path", "_law_node", "_law_gone"] ["_law_depths_here"] (defScope jm):=⟨rfl,rfl,rfl,by decide +kernel,rfl,by decide +kernel,by decide +kernel⟩
abbrev tD:Stmt:=top 111
theorem p8:aC ["_law_elders", "_law_node", "_law_steps"] ["_law_elders", "_law_node", "_law_steps"] (defScope tD):=⟨rfl,rfl,rfl,by decide +kernel,rfl,by decide +kernel,by decide +kernel⟩
abbrev my:Stmt:=top 112
theorem kJ:aC ["_law_elders", "_law_one", "_law_other"] ["_law_elders", "_law_one", "_law_other"] (defScope my):=⟨rfl,rfl,rfl,by decide +kernel,rfl,by decide +kernel,by decide +kernel⟩
abbrev o8:Stmt:=top 113
theorem dh:aC ["_law_depths_here", "_law_family_here", "_law_ask", "_law_way", "_law_one", "_law_other", "_law_steps", "_law_elders", "_law_olders", "_law_ends"] ["_law_depths_here", "_law_family_here", "_law_ask"] (defScope o8):=⟨rfl,rfl,rfl,by decide +kernel,rfl,by decide +kernel,by decide +kernel⟩
abbrev iB:Stmt:=top 114
theorem c7:aC ["_law_tables", "_law_look", "_law_ask", "_law_way", "_law_one", "_law_other", "_law_steps"] ["_law_tables", "_law_look", "_law_ask"] (defScope iB):=⟨rfl,rfl,rfl,by decide +kernel,rfl,by decide +kernel,by decide +kernel⟩
abbrev bQ:Stmt:=top 115
theorem j7:aC ["_law_look", "_law_size", "_law_seen", "_law_told"] ["_law_look", "_law_size", "_law_seen"] (defScope bQ):=⟨rfl,rfl,rfl,by decide +kernel,rfl,by decide +kernel,by decide +kernel⟩
abbrev pL:Stmt:=top 116
theorem rC:aC ["_law_seen", "_law_size", "_law_most", "_law_number"] ["_law_seen", "_law_size", "_law_most"] (defScope pL):=⟨rfl,rfl,rfl,by decide +kernel,rfl,by decide +kernel,by decide +kernel⟩
abbrev jY:Stmt:=top 117
theorem wz:aC ["_law_found", "_law_due_here", "_law_way"] ["_law_found", "_law_due_here", "_law_way"] (defScope jY):=⟨rfl,rfl,rfl,by decide +kernel,rfl,by decide +kernel,by decide +kernel⟩
abbrev Eu:Stmt:=top 118
theorem dM:aC ["_law_script", "_law_depths_here", "_law_octets", "_law_tables", "_law_look", "_law_size", "_law_family_here", "_law_asks", "_law_cell", "_law_number", "_law_one", "_law_other", "_law_ask", "_law_seen", "_law_found"] ["_law_script"] (defScope Eu):=⟨rfl,rfl,rfl,by decide +kernel,rfl,by decide +kernel,by decide +kernel⟩
abbrev fu:Stmt:=(defBody dm).getD 1 (.Pass ⟨0,0,0,0⟩)
abbrev dD:o9:=Hl fu "look_of.<locals>.look" ["number"] ["kept"]
theorem Gy:nW ["number", "kept"] dD:=⟨rfl,rfl,rfl,by decide +kernel,rfl,by decide +kernel,by decide +kernel,by decide +kernel,by decide +kernel⟩
theorem z9:Ey ["blocks", "kept", "look"] "look_of" (defScope dm) dD 2 [1] (fun L=>[L + 1]):=⟨mQ.nd,rfl,by decide +kernel,fun _ _ _=>rfl,fun _ _ _=>rfl,rfl,rfl,fun _ _ _=>rfl,fun L=>by simp,fun _=>rfl,fun L f c j a h=>match j,h with | 0,h=>⟨"kept", 1,by cases h; rfl,by decide +kernel,rfl,rfl,by decide⟩ | j + 1,h=>absurd h (by simp),by decide,by decide⟩
abbrev b7:Stmt:=(defBody cC).getD 1 (.Pass ⟨0,0,0,0⟩)
abbrev bu:rM:=lamOf b7 "heap_look.<locals>.<lambda>" ["node"] ["nodes"]
theorem pQ:tM ["node", "nodes"] bu:=⟨rfl,rfl,rfl,by decide +kernel,rfl,by decide +kernel,by decide +kernel,by decide +kernel,by decide +kernel⟩
theorem wB:Fy ["tables", "nodes"] "heap_look" (defScope cC) bu [1] (fun L=>[L + 1]):=⟨fun _ _ _=>rfl,fun _ _ _=>rfl,fun _ _ _=>rfl,fun L=>by simp,fun _=>rfl,fun L f c j a h=>match j,h with | 0,h=>⟨"nodes", 1,by cases h; rfl,by decide +kernel,rfl,rfl⟩ | j + 1,h=>absurd h (by simp)⟩
abbrev cH:Stmt:=(defBody bQ).getD 0 (.Pass ⟨0,0,0,0⟩)
abbrev cT:o9:=Hl cH "_law_watched.<locals>._law_told" ["_law_number"] ["_law_size", "_law_seen", "_law_look"]
theorem xV:nW ["_law_number", "_law_size", "_law_seen", "_law_look"] cT:=⟨rfl,rfl,rfl,by decide +kernel,rfl,by decide +kernel,by decide +kernel,by decide +kernel,by decide +kernel⟩
theorem sE:Ey ["_law_look", "_law_size", "_law_seen", "_law_told"] "_law_watched" (defScope bQ) cT 3 [1,2,0] (fun L=>[L + 2,L + 3,L + 1]):=⟨j7.nd,rfl,by decide +kernel,fun _ _ _=>rfl,fun _ _ _=>rfl,rfl,rfl,fun _ _ _=>rfl,fun L=>by simp,fun _=>rfl,fun L f c j a h=>match j,h with | 0,h=>⟨"_law_size", 1,by cases h; rfl,by decide +kernel,rfl,rfl,by decide⟩ | 1,h=>⟨"_law_seen", 2,by cases h; rfl,by decide +kernel,rfl,rfl,by decide⟩ | 2,h=>⟨"_law_look", 0,by cases h; rfl,by decide +kernel,rfl,rfl,by decide⟩ | j + 3,h=>absurd h (by simp),by decide,by decide⟩
structure FI (K:PySem.W.Frag) (n:Str) (st:Stmt) (f:Addr) (fd:FuncData):Prop where
 a:PySem.W.nsIn K mainGlobals n=some (some (.ref f))
 F:Fun K n n st f fd
theorem Ex {α:Type} {C:List α→Prop} {us:List α} (hl:us.length=1) (h : ∀ x0,C [x0]):C us:=match us,hl with | [_],_=>h _
theorem df1 {K:PySem.W.Frag} {h:Heap} {mg:Str→Option Value} {n p0:Str} {st:Stmt} {f:Addr} {fd:FuncData} (X:K.In h) (G:h.Ns mainGlobals mg) (d:FI K n st f fd) (b : ∀ (kV doc pm:Value) (an:Option Addr) (cdv ct:Value) (x0:Value),bindArgs (PySem.W.fnOf n n (defArgs st) (defBody st) (defScope st) .none kV doc pm an cdv ct) ⟨[x0],[]⟩=pure (List.zip [p0] [x0])):Df K mg n st [p0] f fd:=⟨d.F,d.F.binds (ps:=[p0]) fun kV doc pm an cdv ct us hl=>Ex (C:=fun us=>bindArgs _ ⟨us,[]⟩=pure (List.zip ([p0]:List Str) us)) hl (b kV doc pm an cdv ct),PySem.W.mg_of X G d.a⟩
theorem JH {α:Type} {C:List α→Prop} {us:List α} (hl:us.length=2) (h : ∀ x0 x1,C [x0,x1]):C us:=match us,hl with | [_,_],_=>h _ _
theorem df2 {K:PySem.W.Frag} {h:Heap} {mg:Str→Option Value} {n p0 p1:Str} {st:Stmt} {f:Addr} {fd:FuncData} (X:K.In h) (G:h.Ns mainGlobals mg) (d:FI K n st f fd) (b : ∀ (kV doc pm:Value) (an:Option Addr) (cdv ct:Value) (x0 x1:Value),bindArgs (PySem.W.fnOf n n (defArgs st) (defBody st) (defScope st) .none kV doc pm an cdv ct) ⟨[x0,x1],[]⟩=pure (List.zip [p0,p1] [x0,x1])):Df K mg n st [p0,p1] f fd:=⟨d.F,d.F.binds (ps:=[p0,p1]) fun kV doc pm an cdv ct us hl=>JH (C:=fun us=>bindArgs _ ⟨us,[]⟩=pure (List.zip ([p0,p1]:List Str) us)) hl (b kV doc pm an cdv ct),PySem.W.mg_of X G d.a⟩
theorem Hf {α:Type} {C:List α→Prop} {us:List α} (hl:us.length=3) (h : ∀ x0 x1 x2,C [x0,x1,x2]):C us:=match us,hl with | [_,_,_],_=>h _ _ _
theorem df3 {K:PySem.W.Frag} {h:Heap} {mg:Str→Option Value} {n p0 p1 p2:Str} {st:Stmt} {f:Addr} {fd:FuncData} (X:K.In h) (G:h.Ns mainGlobals mg) (d:FI K n st f fd) (b : ∀ (kV doc pm:Value) (an:Option Addr) (cdv ct:Value) (x0 x1 x2:Value),bindArgs (PySem.W.fnOf n n (defArgs st) (defBody st) (defScope st) .none kV doc pm an cdv ct) ⟨[x0,x1,x2],[]⟩=pure (List.zip [p0,p1,p2] [x0,x1,x2])):Df K mg n st [p0,p1,p2] f fd:=⟨d.F,d.F.binds (ps:=[p0,p1,p2]) fun kV doc pm an cdv ct us hl=>Hf (C:=fun us=>bindArgs _ ⟨us,[]⟩=pure (List.zip ([p0,p1,p2]:List Str) us)) hl (b kV doc pm an cdv ct),PySem.W.mg_of X G d.a⟩
theorem Jz {α:Type} {C:List α→Prop} {us:List α} (hl:us.length=4) (h : ∀ x0 x1 x2 x3,C [x0,x1,x2,x3]):C us:=match us,hl with | [_,_,_,_],_=>h _ _ _ _
theorem df4 {K:PySem.W.Frag} {h:Heap} {mg:Str→Option Value} {n p0 p1 p2 p3:Str} {st:Stmt} {f:Addr} {fd:FuncData} (X:K.In h) (G:h.Ns mainGlobals mg) (d:FI K n st f fd) (b : ∀ (kV doc pm:Value) (an:Option Addr) (cdv ct:Value) (x0 x1 x2 x3:Value),bindArgs (PySem.W.fnOf n n (defArgs st) (defBody st) (defScope st) .none kV doc pm an cdv ct) ⟨[x0,x1,x2,x3],[]⟩=pure (List.zip [p0,p1,p2,p3] [x0,x1,x2,x3])):Df K mg n st [p0,p1,p2,p3] f fd:=⟨d.F,d.F.binds (ps:=[p0,p1,p2,p3]) fun kV doc pm an cdv ct us hl=>Jz (C:=fun us=>bindArgs _ ⟨us,[]⟩=pure (List.zip ([p0,p1,p2,p3]:List Str) us)) hl (b kV doc pm an cdv ct),PySem.W.mg_of X G d.a⟩
theorem JP {α:Type} {C:List α→Prop} {us:List α} (hl:us.length=5) (h : ∀ x0 x1 x2 x3 x4,C [x0,x1,x2,x3,x4]):C us:=match us,hl with | [_,_,_,_,_],_=>h _ _ _ _ _
theorem df5 {K:PySem.W.Frag} {h:Heap} {mg:Str→Option Value} {n p0 p1 p2 p3 p4:Str} {st:Stmt} {f:Addr} {fd:FuncData} (X:K.In h) (G:h.Ns mainGlobals mg) (d:FI K n st f fd) (b : ∀ (kV doc pm:Value) (an:Option Addr) (cdv ct:Value) (x0 x1 x2 x3 x4:Value),bindArgs (PySem.W.fnOf n n (defArgs st) (defBody st) (defScope st) .none kV doc pm an cdv ct) ⟨[x0,x1,x2,x3,x4],[]⟩=pure (List.zip [p0,p1,p2,p3,p4] [x0,x1,x2,x3,x4])):Df K mg n st [p0,p1,p2,p3,p4] f fd:=⟨d.F,d.F.binds (ps:=[p0,p1,p2,p3,p4]) fun kV doc pm an cdv ct us hl=>JP (C:=fun us=>bindArgs _ ⟨us,[]⟩=pure (List.zip ([p0,p1,p2,p3,p4]:List Str) us)) hl (b kV doc pm an cdv ct),PySem.W.mg_of X G d.a⟩
set_option genInjectivity false in
set_option genSizeOf false in
structure Ad where
 tc_look_of:Addr
 tP_look_of:Addr
 tc_heap_look:Addr
 tP_heap_look:Addr
 tc_law_watched:Addr
 tP_law_watched:Addr
 f_packed:Addr
 fd_packed:FuncData
 f_check_row:Addr
 fd_check_row:FuncData
 f_block_of:Addr
 fd_block_of:FuncData
 f_unpacked:Addr
 fd_unpacked:FuncData
 f_bit_in:Addr
 fd_bit_in:FuncData
 f_bits_of:Addr
 fd_bits_of:FuncData
 f_ones_in:Addr
 fd_ones_in:FuncData
 f_one_in:Addr
 fd_one_in:FuncData
 f_nets_of:Addr
 fd_nets_of:FuncData
 f_low_in:Addr
 fd_low_in:FuncData
 f_first_low_in:Addr
 fd_first_low_in:FuncData
 f_last_low_in:Addr
 fd_last_low_in:FuncData
 f_look_of:Addr
 fd_look_of:FuncData
 f_octets_of:Addr
 fd_octets_of:FuncData
 f_number_of:Addr
 fd_number_of:FuncData
 f_kept_row:Addr
 fd_kept_row:FuncData
 f_ahead_of:Addr
 fd_ahead_of:FuncData
 f_check_place:Addr
 fd_check_place:FuncData
 f_bit_at:Addr
 fd_bit_at:FuncData
 f_ones_at:Addr
 fd_ones_at:FuncData
 f_one_place:Addr
 fd_one_place:FuncData
 f_check_nth:Addr
 fd_check_nth:FuncData
 f_last_no_greater:Addr
 fd_last_no_greater:FuncData
 f_heap_of:Addr
 fd_heap_of:FuncData
 f_size_of:Addr
 fd_size_of:FuncData
 f_lesser_of:Addr
 fd_lesser_of:FuncData
 f_least_of:Addr
 fd_least_of:FuncData
 f_first_at_most:Addr
 fd_first_at_most:FuncData
 f_last_at_most:Addr
 fd_last_at_most:FuncData
 f_place_beneath:Addr
 fd_place_beneath:FuncData
 f_check_stretch:Addr
 fd_check_stretch:FuncData
 f_cover:Addr
 fd_cover:FuncData
 f_is_tree:Addr
 fd_is_tree:FuncData
 f_check_brackets:Addr
 fd_check_brackets:FuncData
 f_kept_brackets:Addr
 fd_kept_brackets:FuncData
 f_low_of:Addr
 fd_low_of:FuncData
 f_base_of:Addr
 fd_base_of:FuncData
 f_start_within:Addr
 fd_start_within:FuncData
 f_end_within:Addr
 fd_end_within:FuncData
 f_block_count:Addr
 fd_block_count:FuncData
 f_heap_look:Addr
 fd_heap_look:FuncData
 f_height:Addr
 fd_height:FuncData
 f_lowest:Addr
 fd_lowest:FuncData
 f_lowest_within:Addr
 fd_lowest_within:FuncData
 f_low_behind:Addr
 fd_low_behind:FuncData
 f_first_within:Addr
 fd_first_within:FuncData
 f_place_of_bit:Addr
 fd_place_of_bit:FuncData
 f_low_ahead:Addr
 fd_low_ahead:FuncData
 f_last_low_upto:Addr
 fd_last_low_upto:FuncData
 f_last_within:Addr
 fd_last_within:FuncData
 f_check_bracket:Addr
 fd_check_bracket:FuncData
 f_closing:Addr
 fd_closing:FuncData
 f_opening:Addr
 fd_opening:FuncData
 f_further_out:Addr
 fd_further_out:FuncData
 f_check_depths:Addr
 fd_check_depths:FuncData
 f_brackets_of:Addr
 fd_brackets_of:FuncData
 f_depths_of:Addr
 fd_depths_of:FuncData
 f_kept_tree:Addr
 fd_kept_tree:FuncData
 f_node_count:Addr
 fd_node_count:FuncData
 f_check_node:Addr
 fd_check_node:FuncData
 f_node_at:Addr
 fd_node_at:FuncData
 f_place_of:Addr
 fd_place_of:FuncData
 f_depth_of:Addr
 fd_depth_of:FuncData
 f_elder_of:Addr
 fd_elder_of:FuncData
 f_first_of:Addr
 fd_first_of:FuncData
 f_younger_of:Addr
 fd_younger_of:FuncData
 f_older_of:Addr
 fd_older_of:FuncData
 f_beneath_of:Addr
 fd_beneath_of:FuncData
 f_up_of:Addr
 fd_up_of:FuncData
 f_is_over:Addr
 fd_is_over:FuncData
 f_common_of:Addr
 fd_common_of:FuncData
 f_numbers_octets:Addr
 fd_numbers_octets:FuncData
 f_bits_octets:Addr
 fd_bits_octets:FuncData
 f_tree_octets:Addr
 fd_tree_octets:FuncData
 f_read_tree:Addr
 fd_read_tree:FuncData
 f_opened_tree:Addr
 fd_opened_tree:FuncData
 f_read_as:Addr
 fd_read_as:FuncData
 f_check_octets:Addr
 fd_check_octets:FuncData
 f_number_at:Addr
 fd_number_at:FuncData
 f_numbers_at:Addr
 fd_numbers_at:FuncData
 f_block_total:Addr
 fd_block_total:FuncData
 f_bits_at:Addr
 fd_bits_at:FuncData
 f_told_bits:Addr
 fd_told_bits:FuncData
 f_told_depths:Addr
 fd_told_depths:FuncData
 f_law_whole:Addr
 fd_law_whole:FuncData
 f_law_depths:Addr
 fd_law_depths:FuncData
 f_law_family:Addr
 fd_law_family:FuncData
 f_law_up:Addr
 fd_law_up:FuncData
 f_law_both:Addr
 fd_law_both:FuncData
 f_law_due:Addr
 fd_law_due:FuncData
 f_law_told_by:Addr
 fd_law_told_by:FuncData
 f_law_watched:Addr
 fd_law_watched:FuncData
 f_law_few:Addr
 fd_law_few:FuncData
 f_law_right:Addr
 fd_law_right:FuncData
 f_law:Addr
 fd_law:FuncData
 t_BLOCK_BITS:Tok
 t_BLOCK_OCTETS:Tok
 t_COUNT_OCTETS:Tok
 t_MOST_BITS:Tok
 t_MOST_NODES:Tok
 t_MOST_NUMBERS:Tok
 t_TREE:Tok
 c_NoNode:Addr
 c_WoodError:Addr
structure Tx (K:PySem.W.Frag) (mg:Str→Option Value) (a:Ad):Prop where
 D_packed:Df K mg "packed" sO ["bits"] a.f_packed a.fd_packed
 D_check_row:Df K mg "check_row" lr ["bits"] a.f_check_row a.fd_check_row
 D_block_of:Df K mg "block_of" mV ["bits"] a.f_block_of a.fd_block_of
 D_unpacked:Df K mg "unpacked" mL ["blocks", "many"] a.f_unpacked a.fd_unpacked
 D_bit_in:Df K mg "bit_in" tX ["block", "k"] a.f_bit_in a.fd_bit_in
 D_bits_of:Df K mg "bits_of" pK ["block", "upto"] a.f_bits_of a.fd_bits_of
 D_ones_in:Df K mg "ones_in" oW ["block", "upto"] a.f_ones_in a.fd_ones_in
 D_one_in:Df K mg "one_in" uc ["block", "nth"] a.f_one_in a.fd_one_in
 D_nets_of:Df K mg "nets_of" qg ["block", "upto"] a.f_nets_of a.fd_nets_of
 D_low_in:Df K mg "low_in" sY ["block", "upto"] a.f_low_in a.fd_low_in
 D_first_low_in:Df K mg "first_low_in" gr ["block", "start", "stop", "goal"] a.f_first_low_in a.fd_first_low_in
 D_last_low_in:Df K mg "last_low_in" iI ["block", "start", "stop", "goal"] a.f_last_low_in a.fd_last_low_in
 D_look_of:Df K mg "look_of" dm ["blocks"] a.f_look_of a.fd_look_of
 D_octets_of:Df K mg "octets_of" j4 ["number", "many"] a.f_octets_of a.fd_octets_of
 D_number_of:Df K mg "number_of" kY ["octets"] a.f_number_of a.fd_number_of
 D_kept_row:Df K mg "kept_row" mU ["bits"] a.f_kept_row a.fd_kept_row
 D_ahead_of:Df K mg "ahead_of" mO ["blocks"] a.f_ahead_of a.fd_ahead_of
 D_check_place:Df K mg "check_place" iK ["at", "most"] a.f_check_place a.fd_check_place
 D_bit_at:Df K mg "bit_at" rD ["tables", "look", "at"] a.f_bit_at a.fd_bit_at
 D_ones_at:Df K mg "ones_at" pI ["tables", "look", "at"] a.f_ones_at a.fd_ones_at
 D_one_place:Df K mg "one_place" kW ["tables", "look", "nth"] a.f_one_place a.fd_one_place
 D_check_nth:Df K mg "check_nth" kh ["nth", "many"] a.f_check_nth a.fd_check_nth
 D_last_no_greater:Df K mg "last_no_greater" eG ["numbers", "goal"] a.f_last_no_greater a.fd_last_no_greater
 D_heap_of:Df K mg "heap_of" pF ["numbers"] a.f_heap_of a.fd_heap_of
 D_size_of:Df K mg "size_of" pN ["many"] a.f_size_of a.fd_size_of
 D_lesser_of:Df K mg "lesser_of" j5 ["one", "other"] a.f_lesser_of a.fd_lesser_of
 D_least_of:Df K mg "least_of" mC ["many", "look", "start", "stop"] a.f_least_of a.fd_least_of
 D_first_at_most:Df K mg "first_at_most" gb ["many", "look", "start", "goal"] a.f_first_at_most a.fd_first_at_most
 D_last_at_most:Df K mg "last_at_most" gG ["many", "look", "stop", "goal"] a.f_last_at_most a.fd_last_at_most
 D_place_beneath:Df K mg "place_beneath" gf ["size", "look", "node", "goal", "side"] a.f_place_beneath a.fd_place_beneath
 D_check_stretch:Df K mg "check_stretch" fV ["many", "start", "stop"] a.f_check_stretch a.fd_check_stretch
 D_cover:Df K mg "cover" wQ ["many", "start", "stop"] a.f_cover a.fd_cover
 D_is_tree:Df K mg "is_tree" o4 ["bits"] a.f_is_tree a.fd_is_tree
 D_check_brackets:Df K mg "check_brackets" fc ["bits"] a.f_check_brackets a.fd_check_brackets
 D_kept_brackets:Df K mg "kept_brackets" fP ["bits"] a.f_kept_brackets a.fd_kept_brackets
 D_low_of:Df K mg "low_of" sG ["tables", "number", "block"] a.f_low_of a.fd_low_of
 D_base_of:Df K mg "base_of" pq ["tables", "number"] a.f_base_of a.fd_base_of
 D_start_within:Df K mg "start_within" gD ["number", "at"] a.f_start_within a.fd_start_within
 D_end_within:Df K mg "end_within" jF ["number", "upto"] a.f_end_within a.fd_end_within
 D_block_count:Df K mg "block_count" iz ["tables"] a.f_block_count a.fd_block_count
 D_heap_look:Df K mg "heap_look" cC ["tables"] a.f_heap_look a.fd_heap_look
 D_height:Df K mg "height" tH ["tables", "look", "at"] a.f_height a.fd_height
 D_lowest:Df K mg "lowest" rQ ["tables", "look", "at", "upto"] a.f_lowest a.fd_lowest
 D_lowest_within:Df K mg "lowest_within" fZ ["tables", "look", "number", "at", "upto"] a.f_lowest_within a.fd_lowest_within
 D_low_behind:Df K mg "low_behind" jJ ["tables", "look", "at", "goal"] a.f_low_behind a.fd_low_behind
 D_first_within:Df K mg "first_within" gQ ["tables", "look", "number", "at", "goal"] a.f_first_within a.fd_first_within
 D_place_of_bit:Df K mg "place_of_bit" gF ["number", "within"] a.f_place_of_bit a.fd_place_of_bit
 D_low_ahead:Df K mg "low_ahead" kZ ["tables", "look", "at", "goal"] a.f_low_ahead a.fd_low_ahead
 D_last_low_upto:Df K mg "last_low_upto" fL ["tables", "look", "upto", "goal"] a.f_last_low_upto a.fd_last_low_upto
 D_last_within:Df K mg "last_within" iH ["tables", "look", "number", "upto", "goal"] a.f_last_within a.fd_last_within
 D_check_bracket:Df K mg "check_bracket" fQ ["tables", "look", "at", "bit"] a.f_check_bracket a.fd_check_bracket
 D_closing:Df K mg "closing" qb ["tables", "look", "at"] a.f_closing a.fd_closing
 D_opening:Df K mg "opening" p7 ["tables", "look", "at"] a.f_opening a.fd_opening
 D_further_out:Df K mg "further_out" iJ ["tables", "look", "at", "pairs"] a.f_further_out a.fd_further_out
 D_check_depths:Df K mg "check_depths" gw ["depths"] a.f_check_depths a.fd_check_depths
 D_brackets_of:Df K mg "brackets_of" iu ["depths"] a.f_brackets_of a.fd_brackets_of
 D_depths_of:Df K mg "depths_of" lq ["bits"] a.f_depths_of a.fd_depths_of
 D_kept_tree:Df K mg "kept_tree" jV ["depths"] a.f_kept_tree a.fd_kept_tree
 D_node_count:Df K mg "node_count" jy ["tables"] a.f_node_count a.fd_node_count
 D_check_node:Df K mg "check_node" jw ["tables", "node"] a.f_check_node a.fd_check_node
 D_node_at:Df K mg "node_at" ph ["tables", "look", "at"] a.f_node_at a.fd_node_at
 D_place_of:Df K mg "place_of" mX ["tables", "look", "node"] a.f_place_of a.fd_place_of
 D_depth_of:Df K mg "depth_of" lZ ["tables", "look", "node"] a.f_depth_of a.fd_depth_of
 D_elder_of:Df K mg "elder_of" m5 ["tables", "look", "node"] a.f_elder_of a.fd_elder_of
 D_first_of:Df K mg "first_of" mj ["tables", "look", "node"] a.f_first_of a.fd_first_of
 D_younger_of:Df K mg "younger_of" jL ["tables", "look", "node"] a.f_younger_of a.fd_younger_of
 D_older_of:Df K mg "older_of" mY ["tables", "look", "node"] a.f_older_of a.fd_older_of
 D_beneath_of:Df K mg "beneath_of" jD ["tables", "look", "node"] a.f_beneath_of a.fd_beneath_of
 D_up_of:Df K mg "up_of" v9 ["tables", "look", "node", "steps"] a.f_up_of a.fd_up_of
 D_is_over:Df K mg "is_over" pW ["tables", "look", "one", "other"] a.f_is_over a.fd_is_over
 D_common_of:Df K mg "common_of" jU ["tables", "look", "one", "other"] a.f_common_of a.fd_common_of
 D_numbers_octets:Df K mg "numbers_octets" fD ["numbers", "size"] a.f_numbers_octets a.fd_numbers_octets
 D_bits_octets:Df K mg "bits_octets" iw ["blocks", "ahead"] a.f_bits_octets a.fd_bits_octets
 D_tree_octets:Df K mg "tree_octets" iC ["depths"] a.f_tree_octets a.fd_tree_octets
 D_read_tree:Df K mg "read_tree" lw ["octets"] a.f_read_tree a.fd_read_tree
 D_opened_tree:Df K mg "opened_tree" iM ["octets"] a.f_opened_tree a.fd_opened_tree
 D_read_as:Df K mg "read_as" oU ["octets", "tell", "write"] a.f_read_as a.fd_read_as
 D_check_octets:Df K mg "check_octets" gA ["octets"] a.f_check_octets a.fd_check_octets
 D_number_at:Df K mg "number_at" kj ["octets", "at", "size"] a.f_number_at a.fd_number_at
 D_numbers_at:Df K mg "numbers_at" jE ["octets", "at", "size", "many"] a.f_numbers_at a.fd_numbers_at
 D_block_total:Df K mg "block_total" il ["many"] a.f_block_total a.fd_block_total
 D_bits_at:Df K mg "bits_at" qi ["octets", "at", "many"] a.f_bits_at a.fd_bits_at
 D_told_bits:Df K mg "told_bits" lB ["octets"] a.f_told_bits a.fd_told_bits
 D_told_depths:Df K mg "told_depths" iR ["octets"] a.f_told_depths a.fd_told_depths
 D_law_whole:Df K mg "_law_whole" j0 ["_law_found"] a.f_law_whole a.fd_law_whole
 D_law_depths:Df K mg "_law_depths" jC ["_law_script", "_law_most"] a.f_law_depths a.fd_law_depths
 D_law_family:Df K mg "_law_family" jm ["_law_depths_here"] a.f_law_family a.fd_law_family
 D_law_up:Df K mg "_law_up" tD ["_law_elders", "_law_node", "_law_steps"] a.f_law_up a.fd_law_up
 D_law_both:Df K mg "_law_both" my ["_law_elders", "_law_one", "_law_other"] a.f_law_both a.fd_law_both
 D_law_due:Df K mg "_law_due" o8 ["_law_depths_here", "_law_family_here", "_law_ask"] a.f_law_due a.fd_law_due
 D_law_told_by:Df K mg "_law_told_by" iB ["_law_tables", "_law_look", "_law_ask"] a.f_law_told_by a.fd_law_told_by
 D_law_watched:Df K mg "_law_watched" bQ ["_law_look", "_law_size", "_law_seen"] a.f_law_watched a.fd_law_watched
 D_law_few:Df K mg "_law_few" pL ["_law_seen", "_law_size", "_law_most"] a.f_law_few a.fd_law_few
 D_law_right:Df K mg "_law_right" jY ["_law_found", "_law_due_here", "_law_way"] a.f_law_right a.fd_law_right
 D_law:Df K mg "law" Eu ["_law_script"] a.f_law a.fd_law
 b_bool:mg "bool" = none
 b_enumerate:mg "enumerate" = none
 b_int:mg "int" = none
 b_isinstance:mg "isinstance" = none
 b_len:mg "len" = none
 b_list:mg "list" = none
 b_max:mg "max" = none
 b_min:mg "min" = none
 b_range:mg "range" = none
 b_reversed:mg "reversed" = none
 b_set:mg "set" = none
 b_sum:mg "sum" = none
 b_tuple:mg "tuple" = none
 b_zip:mg "zip" = none
 c_BLOCK_BITS:mg "BLOCK_BITS" = some (.int 32 a.t_BLOCK_BITS)
 c_BLOCK_OCTETS:mg "BLOCK_OCTETS" = some (.int 4 a.t_BLOCK_OCTETS)
 c_COUNT_OCTETS:mg "COUNT_OCTETS" = some (.int 2 a.t_COUNT_OCTETS)
 c_MOST_BITS:mg "MOST_BITS" = some (.int 4096 a.t_MOST_BITS)
 c_MOST_NODES:mg "MOST_NODES" = some (.int 2048 a.t_MOST_NODES)
 c_MOST_NUMBERS:mg "MOST_NUMBERS" = some (.int 4096 a.t_MOST_NUMBERS)
 c_TREE:mg "TREE" = some (.int 2 a.t_TREE)
 g_NoNode:mg "NoNode" = some (.ref a.c_NoNode)
 g_WoodError:mg "WoodError" = some (.ref a.c_WoodError)
 x_NoNode:Exc K mg "NoNode" a.c_NoNode
 k_NoNode:Gv K a.c_NoNode
 i_NoNode_NoNode:PySem.W.kitOne K (.ref a.c_NoNode) (.ref a.c_NoNode)=some true
 i_NoNode_WoodError:PySem.W.kitOne K (.ref a.c_NoNode) (.ref a.c_WoodError)=some true
 i_NoNode_ValueError:PySem.W.kitOne K (.ref a.c_NoNode) (.type "ValueError")=some true
 x_WoodError:Exc K mg "WoodError" a.c_WoodError
 k_WoodError:Gv K a.c_WoodError
 i_WoodError_NoNode:PySem.W.kitOne K (.ref a.c_WoodError) (.ref a.c_NoNode)=some false
 i_WoodError_WoodError:PySem.W.kitOne K (.ref a.c_WoodError) (.ref a.c_WoodError)=some true
 i_WoodError_ValueError:PySem.W.kitOne K (.ref a.c_WoodError) (.type "ValueError")=some true
 w_look_of:a.fd_look_of.code=.ref a.tc_look_of
 w_heap_look:a.fd_heap_look.code=.ref a.tc_heap_look
 w_law_watched:a.fd_law_watched.code=.ref a.tc_law_watched
structure Bs (mg:Str→Option Value) (base:Heap) (a:Ad):Prop where
 bm:BMain mg base
 C_look_of:PySem.W.CodeHd base a.tc_look_of a.tP_look_of
 C_heap_look:PySem.W.CodeHd base a.tc_heap_look a.tP_heap_look
 C_law_watched:PySem.W.CodeHd base a.tc_law_watched a.tP_law_watched
 N_look_of_heap_look:a.tP_look_of ≠ a.tP_heap_look
 N_look_of_law_watched:a.tP_look_of ≠ a.tP_law_watched
 N_heap_look_law_watched:a.tP_heap_look ≠ a.tP_law_watched
theorem cN.out {H:Hp} {f b:Addr} {c:o9} {cs:List Addr} {fvs:List V} {xs:List V} (h:cN H f c cs fvs) (e:H b=some (.lst xs)):b ∉ cs:=fun z=>by
 obtain ⟨i,hi⟩:=List.getElem?_of_mem z
 obtain ⟨co,v,u,_,e2,_⟩:=h.cells i b hi
 rw [e] at e2
 cases e2
theorem TabAt.same {H H':Hp} {P:Addr} {pos:Pos} {q:Str} (h:TabAt H P pos q) (s:aR H H'):TabAt H' P pos q:=by
 obtain ⟨ps,h1,h2,h3⟩:=h
 refine ⟨ps,s _ _ h1,h2,?_⟩
 rcases h3 with h3 | ⟨cd,oc,vs,t,h4,h5,h6⟩
 ·exact .inl h3
 ·exact .inr ⟨cd,oc,vs,t,h4,s _ _ h5,h6⟩
def vC (P:Addr) (H H':Hp):Prop := ∀ b o,H b=some o→b ≠ P→H' b=some o
theorem TabAt.ne {H:Hp} {P b:Addr} {pos:Pos} {q:Str} {o:HO} (h:TabAt H P pos q) (e:H b=some o) (n : ∀ ps,o ≠ .tbl ps):b ≠ P:=fun z=>by
 obtain ⟨ps,h1,_⟩:=h
 rw [z,h1] at e
 cases e
 exact n _ rfl
theorem TabAt.upd {H:Hp} {P x:Addr} {pos:Pos} {q:Str} {xs ys:List V} (h:TabAt H P pos q) (e:H x=some (.lst xs)):TabAt (L2.upd H x (.lst ys)) P pos q:=by
 obtain ⟨ps,h1,h2,h3⟩:=h
 have ne : ∀ b o,H b=some o→(∀ zs,o ≠ .lst zs)→L2.upd H x (.lst ys) b=some o:=fun b o e2 n=>by
  rw [aJ (fun z=>by rw [z,e] at e2; cases e2; exact n _ rfl)]
  exact e2
 refine ⟨ps,ne _ _ h1 nofun,h2,?_⟩
 rcases h3 with h3 | ⟨cd,oc,vs,t,h4,h5,h6⟩
 ·exact .inl h3
 ·exact .inr ⟨cd,oc,vs,t,h4,ne _ _ h5 nofun,h6⟩
theorem wH {n j:Nat} (h:j < n):ixN n (j:Int)=some j:=by
 unfold ixN
 simp
 omega
theorem wJ (k:Nat) (v:Int):(List.replicate k [V.int v]).flatten=(List.replicate k v).map V.int:=by
 induction k with
 | zero=>rfl
 | succ k ih=>rw [List.replicate_succ,List.flatten_cons,ih,List.replicate_succ]; rfl
structure LK where
 f:Addr
 wr:Option Addr
 bl:Addr
 off:Nat
 all:List V
def LK.put (L:LK) (H:Hp) (ss:List Int):Hp:=match L.wr with
 | some sn=>upd H sn (.lst (ss.map V.int))
 | none=>H
def jR (H:Hp) (L:LK):Prop:=L.off=0 ∧ ∃ (sn g:Addr) (cs cs':List Addr),L.wr=some sn∧sn ≠ L.bl∧cN H L.f cT cs [.int (L.all.length:Int),.ref sn,.ref g]∧cN (hide H cs) g dD cs' [.ref L.bl]
theorem DN {H:Hp} {cs:List Addr} {b:Addr} {o:HO} (h:hide H cs b=some o):b ∉ cs∧H b=some o:=by
 by_cases z:b∈cs
 ·rw [lK z] at h
  cases h
 ·rw [bF z] at h
  exact ⟨z,h⟩
theorem cN.hid {H H':Hp} {g:Addr} {c:o9} {cs cs':List Addr} {fvs:List V} (h:cN (hide H cs) g c cs' fvs) (s : ∀ b o,H b=some (aP b o)→H' b=some (aP b o)):cN (hide H' cs) g c cs' fvs:=h.same fun b o e=>by
 obtain ⟨z,e⟩:=DN e
 rw [bF z]
 exact s b o e
theorem jR.fn {H:Hp} {L:LK} (h:jR H L) : ∃ o fd,H L.f=some (aP L.f o)∧o.data=.func fd:=by
 obtain ⟨_,sn,g,cs,cs',_,_,ca,_⟩:=h
 obtain ⟨cd,doc,pm,ctv,oc,vs,t,h1,_⟩:=ca.ex
 exact ⟨_,_,h1,rfl⟩
theorem jR.same {H H':Hp} {L:LK} (h:jR H L) (s:aR H H'):jR H' L:=by
 obtain ⟨h0,sn,g,cs,cs',h1,h2,ca,cg⟩:=h
 exact ⟨h0,sn,g,cs,cs',h1,h2,ca.same fun b o e=>s _ _ e,cN.hid cg fun b o e=>s _ _ e⟩
theorem jR.kept {H H':Hp} {L:LK} (h:jR H L) (s : ∀ b o,H b=some o→(∀ ps,o ≠ .tbl ps)→(∀ ps,o ≠ .lst ps)→H' b=some o):jR H' L:=by
 obtain ⟨h0,sn,g,cs,cs',h1,h2,ca,cg⟩:=h
 exact ⟨h0,sn,g,cs,cs',h1,h2,ca.same fun b o e=>s _ _ e nofun nofun,cN.hid cg fun b o e=>s _ _ e nofun nofun⟩
theorem jR.upd {H:Hp} {L:LK} {b:Addr} {xs ys:List V} (h:jR H L) (e:H b=some (.lst xs)):jR (L2.upd H b (.lst ys)) L:=by
 obtain ⟨h0,sn,g,cs,cs',h1,h2,ca,cg⟩:=h
 refine ⟨h0,sn,g,cs,cs',h1,h2,ca.same fun c o e2=>?_,cN.hid cg fun c o e2=>?_⟩
 ·rw [aJ (fun z=>by rw [z,e] at e2; cases e2)]
  exact e2
 ·rw [aJ (fun z=>by rw [z,e] at e2; cases e2)]
  exact e2
structure Asks (H:Hp) (L:LK) (ss:List Int):Prop where
 look:jR H L
 seen : ∀ sn,L.wr=some sn→H sn=some (.lst (ss.map V.int))∧sn ≠ L.bl
 nodes:H L.bl=some (.lst L.all)
 few:ss.length≤1000
theorem Asks.same {H H':Hp} {L:LK} {ss:List Int} (h:Asks H L ss) (s:aR H H'):Asks H' L ss:=⟨h.look.same s,fun sn e=>⟨s _ _ (h.seen sn e).1,(h.seen sn e).2⟩,s _ _ h.nodes,h.few⟩
theorem LK.put_none {L:LK} (e:L.wr=none) (H:Hp) (ss:List Int):L.put H ss=H:=by unfold LK.put; rw [e]
theorem LK.put_some {L:LK} {sn:Addr} (e:L.wr=some sn) (H:Hp) (ss:List Int):L.put H ss=upd H sn (.lst (ss.map V.int)):=by unfold LK.put; rw [e]
theorem LK.put_ne {L:LK} {b:Addr} (n:L.wr ≠ some b) (H:Hp) (ss:List Int):L.put H ss b=H b:=by
 cases e:L.wr with
 | none=>rw [LK.put_none e]
 | some sn=>rw [LK.put_some e,aJ (fun z=>n (by rw [e,z]))]
theorem Asks.id {H:Hp} {L:LK} {ss:List Int} (h:Asks H L ss):L.put H ss=H:=by
 cases e:L.wr with
 | none=>rw [LK.put_none e]
 | some sn=>rw [LK.put_some e]; exact Ir (h.seen sn e).1
theorem Asks.putN {H:Hp} {L:LK} {ss tt:List Int} {b:Addr} {o:HO} (h:Asks H L ss) (e:H b=some o) (n : ∀ xs,o ≠ .lst xs):L.put H tt b=some o:=by
 rw [LK.put_ne (fun z=>?_)]
 ·exact e
 ·rw [(h.seen b z).1] at e
  cases e
  exact n _ rfl
theorem Asks.putT {H:Hp} {L:LK} {ss tt:List Int} {b:Addr} {xs:List V} (h:Asks H L ss) (e:H b=some (.tup xs)):L.put H tt b=some (.tup xs):=h.putN e nofun
theorem Asks.put {H:Hp} {L:LK} {ss tt:List Int} (h:Asks H L ss) (hl:tt.length≤1000):Asks (L.put H tt) L tt:=by
 cases e:L.wr with
 | none =>
  rw [LK.put_none e]
  exact ⟨h.look,fun sn z=>(by rw [e] at z; cases z),h.nodes,hl⟩
 | some sn =>
  obtain ⟨h1,h2⟩:=h.seen sn e
  rw [LK.put_some e]
  refine ⟨h.look.upd h1,fun sn' z=>?_,by rw [aJ (Ne.symm h2)]; exact h.nodes,hl⟩
  rw [e] at z
  cases z
  exact ⟨az,h2⟩
theorem Asks.more {H:Hp} {L:LK} {ss tt:List Int} (h:Asks H L ss) (hl:tt.length≤1000):Asks (L.put H tt) L tt:=h.put hl
def GX:Addr→Sp:=fun f vs H Q _ => ∃ (L:LK) (ss:List Int) (n:Nat) (x:V),f=L.f∧vs=[.int (n:Int)]∧Asks H L ss∧ss.length < 1000∧L.all[L.off + n]?=some x∧Q x (L.put H (ss ++ [((L.off + n:Nat):Int)]))
def cz (b:Int) (n:Nat):List Int:=(List.range n).map fun i=>b / 256 ^ i % 256
def oK:List Int→Int
 | []=>0
 | x :: r=>256 * oK r + x
theorem bz (b:Int) (n:Nat):(cz b n).length=n:=by simp [cz]
theorem uX (b:Int) (n:Nat):cz b (n + 1)=cz b n ++ [b / 256 ^ n % 256]:=by simp [cz,List.range_succ]
theorem yg {b:Int} {n:Nat} {x:Int} (h:x∈cz b n):0≤x∧x≤255:=by
 unfold cz at h
 obtain ⟨i,_,rfl⟩:=List.mem_map.mp h
 omega
theorem yJ (b:Int) (k:Nat):b / 256 ^ k / 256=b / 256 ^ (k + 1):=by
 rw [Int.ediv_ediv_of_nonneg (Int.pow_nonneg (by decide)),Int.pow_succ]
theorem Dk (r:List Int) (x:Int):oK (r ++ [x])=oK r + x * 256 ^ r.length:=by
 induction r with
 | nil=>simp [oK]
 | cons y r ih =>
  simp only [List.cons_append,oK,ih,List.length_cons,Int.pow_succ]
  rw [Int.mul_add,Int.mul_comm (256 ^ r.length) 256,← Int.mul_assoc,← Int.mul_assoc,Int.mul_comm 256 x]
  omega
theorem lU (b:Int) : ∀ n:Nat,oK (cz b n)=b % 256 ^ n
 | 0=>by simp [cz,oK]
 | n + 1=>by
  rw [uX,Dk,lU b n,bz]
  have hp:(0:Int) < 256 ^ n:=Int.pow_pos (by decide)
  have e1:=Int.emod_add_mul_ediv b (256 ^ n)
  have e2:=Int.emod_add_mul_ediv (b / 256 ^ n) 256
  have e3:=Int.emod_add_mul_ediv b (256 ^ (n + 1))
  rw [yJ] at e2
  rw [Int.pow_succ] at e3 ⊢
  have h1:(256:Int) ^ n * (b / 256 ^ n)=256 ^ n * (b / 256 ^ n % 256) + 256 ^ n * 256 * (b / 256 ^ (n + 1)):=by
   rw [Int.mul_assoc,← Int.mul_add,e2]
  rw [Int.pow_succ] at h1
  rw [Int.mul_comm (b / 256 ^ n % 256)]
  omega
theorem vB (b:Int) (n:Nat) (h0:0≤b) (h1:b < 256 ^ n):oK (cz b n)=b:=by
 rw [lU,Int.emod_eq_of_lt h0 h1]
theorem za : ∀ {ns:List Int},aU ns → ∀ k:Nat,blk ns / 2 ^ k=blk (ns.drop k)
 | ns,_,0=>by rw [Int.pow_zero,Int.ediv_one,List.drop_zero]
 | [],_,k + 1=>by simp [blk]
 | b :: r,h,k + 1=>by
  have hb:=h.head
  rw [List.drop_succ_cons,← za h.tail k,Int.pow_succ,Int.mul_comm (2 ^ k) 2,← Int.ediv_ediv_of_nonneg (by decide)]
  have e:blk (b :: r) / 2=blk r:=by
   simp only [blk]
   omega
  rw [e]
theorem Bu : ∀ {ns:List Int},aU ns → ∀ k:Nat,blk ns % 2 ^ k=blk (ns.take k)
 | ns,_,0=>by rw [Int.pow_zero,Int.emod_one,List.take_zero]; rfl
 | [],_,k + 1=>by simp [blk]
 | b :: r,h,k + 1=>by
  have hb:=h.head
  have ih:=Bu h.tail k
  have hp:(0:Int) < 2 ^ k:=Int.pow_pos (by decide)
  have e1:=Int.emod_add_mul_ediv (blk r) (2 ^ k)
  have l0:=Int.emod_nonneg (blk r) (show (2:Int) ^ k ≠ 0 by omega)
  have l1:=Int.emod_lt_of_pos (blk r) hp
  rw [List.take_succ_cons]
  simp only [blk]
  rw [← ih,Int.pow_succ]
  have e2:2 * blk r + b=(2 * (blk r % 2 ^ k) + b) + (2 ^ k * 2) * (blk r / 2 ^ k):=by
   rw [Int.mul_assoc,Int.mul_comm 2 (blk r / 2 ^ k),← Int.mul_assoc]
   omega
  rw [e2,Int.add_mul_emod_self_left,Int.emod_eq_of_lt (by omega) (by omega)]
def Gs (ns:List Int) (i:Nat):Int:=blk ((ns.drop (8 * i)).take 8)
theorem q9 {ns:List Int} (h:aU ns) (q t:Nat) (ht:t < 4):bK ns q / 256 ^ t % 256=Gs ns (4 * q + t):=by
 have e:(256:Int) ^ t=2 ^ (8 * t):=by
  have:t=0∨t=1∨t=2∨t=3:=by omega
  rcases this with rfl | rfl | rfl | rfl <;> decide
 have hs:=oG h q
 unfold bK Gs
 rw [e,za hs,show (256:Int)=2 ^ 8 from by decide,Bu (fun x hx=>hs x (List.mem_of_mem_drop hx)),List.drop_take,List.take_take,List.drop_drop,show 32 * q + 8 * t=8 * (4 * q + t) from by omega,Nat.min_eq_left (by omega)]
theorem Cz (x:Int):cz x 4=[x / 256 ^ 0 % 256,x / 256 ^ 1 % 256,x / 256 ^ 2 % 256,x / 256 ^ 3 % 256]:=rfl
theorem ql {ns:List Int} (h:aU ns) : ∀ m:Nat,((List.range m).map (bK ns)).flatMap (fun x=>cz x 4)=(List.range (4 * m)).map (Gs ns)
 | 0=>rfl
 | m + 1=>by
  rw [List.range_succ,List.map_append,List.flatMap_append,ql h m]
  show _ ++ (cz (bK ns m) 4 ++ [])=_
  rw [List.append_nil,Cz,q9 h m 0 (by omega),q9 h m 1 (by omega),q9 h m 2 (by omega),q9 h m 3 (by omega),show 4 * (m + 1)=4 * m + 1 + 1 + 1 + 1 from by omega,List.range_succ,List.range_succ,List.range_succ,List.range_succ]
  simp
def LO (ns:List Int) (j:Nat):List Int:=(List.range (4 * many ns.length)).map (Gs ns) ++ (ahd ns j).flatMap (fun x=>cz x 2)
theorem cM (k:Nat) : ∀ ns:List Int,(ns.flatMap (fun x=>cz x k)).length=k * ns.length
 | []=>by simp
 | x :: r=>by rw [List.flatMap_cons,List.length_append,cM k r,bz,List.length_cons,Nat.mul_succ]; omega
theorem Cy (ns:List Int) (j:Nat):(LO ns j).length=4 * many ns.length + 2 * (j + 1):=by
 unfold LO
 rw [List.length_append,List.length_map,List.length_range,cM,cU]
theorem Ez {xs:List V} {i j:Nat} (hi:i≤xs.length) (hj:j≤xs.length):gM xs (some (i:Int)) (some (j:Int))=(xs.drop i).take (j - i):=by
 unfold gM
 rw [HT.jn,HT.jn,Nat.min_eq_left hi,Nat.min_eq_left hj]
theorem Dy {lows:List Int} {S:Nat} {xs:List V} (hSz:ir lows.length S) (hv:fU lows S 1 xs):(xs.drop S).take lows.length=lows.map V.int:=by
 have hlS:lows.length≤S:=by
  obtain ⟨_,_,z,_⟩:=hSz
  exact z
 refine List.ext_getElem? fun i=>?_
 rw [List.getElem?_map]
 by_cases hi:i < lows.length
 ·rw [List.getElem?_take_of_lt hi,List.getElem?_drop,hv.leaf i (by omega),mF (List.getElem?_eq_getElem hi),List.getElem?_eq_getElem hi]
  rfl
 ·rw [List.getElem?_eq_none (by rw [List.length_take]; omega),List.getElem?_eq_none (by omega)]
  rfl
def je (ns lows:List Int):List Int:=[2] ++ cz (ns.length:Int) 2 ++ ((cJ ns).flatMap (fun x=>cz x 4) ++ (ahd ns (many ns.length)).flatMap (fun x=>cz x 2)) ++ lows.flatMap (fun x=>cz x 2)
theorem Ft {ns lows:List Int} (h:aU ns):je ns lows=[2] ++ cz (ns.length:Int) 2 ++ LO ns (many ns.length) ++ lows.flatMap (fun x=>cz x 2):=by
 unfold je LO cJ
 rw [ql h]
theorem nQ {ns lows:List Int} (h:aU ns):(je ns lows).length=3 + (4 * many ns.length + 2 * (many ns.length + 1)) + 2 * lows.length:=by
 rw [Ft h,List.length_append,List.length_append,List.length_append,bz,Cy,cM]
 rfl
section
variable {P:Program} {w:World} {K:PySem.W.Frag} {mg:Str→Option Value} {base:Heap} {a:Ad}
theorem Fx (x:Int):Builtin.bitAnd x 1=x % 2:=by
 unfold Builtin.bitAnd
 by_cases hx:0≤x
 ·simp [hx]
  omega
 ·simp [hx]
  unfold Builtin.bitNot
  omega
def Ds:Sp:=fun vs H Q _ => ∃ (b k:Int),vs=[.int b,.int k]∧0≤k∧Q (.int (bit b k.toNat)) H
theorem vH (T:Tx K mg a):aX P w K mg base CX0 1 a.f_bit_in a.fd_bit_in ["block", "k"] Ds:=by
 refine T.D_bit_in.F.ok Dq (fun vs H Q E h=>?_) (fun cdv A outer s H vs Q E hr h=>?_)
 ·obtain ⟨b,k,rfl,_⟩:=h
  rfl
 obtain ⟨b,k,rfl,h0,q⟩:=h
 refine ⟨_,(aq (aB (aF Ip (aF Jf (pv 0) (pv 1)) au))),?_⟩
 refine ⟨_,rfl,_,rfl,_,_,rfl,rfl,h0,_,_,rfl,rfl,?_⟩
 have e:Builtin.bitAnd (b / 2 ^ k.toNat) 1=bit b k.toNat:=Fx _
 show Q (.int (Builtin.bitAnd (b / 2 ^ k.toNat) 1)) H
 rw [e]
 exact q
def zR:Sp:=fun vs H Q _ => ∃ (b n:Int),vs=[.int b,.int n]∧0≤n∧n≤32 ∧ ∀ r,H r=none→Q (.ref r) (upd H r (.lst ((bits b n.toNat).map V.int)))
theorem jH (T:Tx K mg a):aX P w K mg base CX0 2 a.f_bits_of a.fd_bits_of ["block", "upto"] zR:=by
 refine T.D_bits_of.F.ok zY (fun vs H Q E h=>?_) (fun cdv A outer s H vs Q E hr h=>?_)
 ·obtain ⟨b,n,rfl,_⟩:=h
  rfl
 obtain ⟨b,n,rfl,h0,h1,q⟩:=h
 refine ⟨_,(aq (aB (rn rfl (fj.one (j:=0) rfl (Or.inl rfl) rfl rfl (Or.inl rfl)) (iY rfl T.b_range (aa (pv 1) ao)) (fun _ _ _ _=>qZ) (fun _ _ _ _=>(aD T.D_bit_in (vH T) (by decide) hr aH rfl (aa (pv 1) (aa (pv 0) ao))))))),?_⟩
 refine ⟨_,rfl,n,rfl,by omega,by omega,?_⟩
 refine CV (fun j=>bit b j) (by rw [sizeLine_eq]; omega) (fun _ _ _ q=>q) (fun j H' Q hj sm q=>⟨_,rfl,_,rfl,_,_,rfl,by omega,?_⟩) fun D hD=>q D hD
 rw [show ((0:Int) + (j:Int)).toNat=j from by omega]
 exact q
def Ax:Sp:=fun vs H Q _ => ∃ (b n:Int),vs=[.int b,.int n]∧0≤n∧n≤32 ∧ ∀ H',aR H H'→Q (.int (ones b n.toNat)) H'
theorem tR (T:Tx K mg a):aX P w K mg base CX0 3 a.f_ones_in a.fd_ones_in ["block", "upto"] Ax:=by
 refine T.D_ones_in.F.ok Ai (fun vs H Q E h=>?_) (fun cdv A outer s H vs Q E hr h=>?_)
 ·obtain ⟨b,n,rfl,_⟩:=h
  rfl
 obtain ⟨b,n,rfl,h0,h1,q⟩:=h
 refine ⟨_,(aq (aB (aY (Fg rfl) rfl T.b_sum Tw.HH (aa (aD T.D_bits_of (jH T) (by decide) hr aH rfl (aa (pv 0) (aa (pv 1) ao))) ao)))),?_⟩
 exact ⟨_,rfl,_,rfl,b,n,rfl,h0,h1,fun r hr'=>⟨r,bits b n.toNat,rfl,SqL.of az,q _ (aA hr' _)⟩⟩
def Dr:Sp:=fun vs H Q _ => ∃ (b t:Int),vs=[.int b,.int t]∧(∀ H',aR H H' → ∀ k:Nat,k < 32→bit b k=1→ones b k=t→Q (.int (k:Int)) H') ∧
 ∀ H',aR H H'→(∀ k:Nat,k < 32 → ¬ (bit b k=1∧ones b k=t))→Q .non H'
theorem Dh (T:Tx K mg a):aX P w K mg base CX0 3 a.f_one_in a.fd_one_in ["block", "nth"] Dr:=by
 refine T.D_one_in.F.ok jf (fun vs H Q E h=>?_) (fun cdv A outer s H vs Q E hr h=>?_)
 ·obtain ⟨b,n,rfl,_⟩:=h
  rfl
 obtain ⟨b,t,rfl,q1,q2⟩:=h
 refine ⟨_,(aj (aG (i:=2) jf.nd rfl (Or.inl rfl) au)
  (aj (bV PassesOwn.never rfl (wk rfl T.b_enumerate (aa (aD T.D_bits_of (jH T) (by decide) hr aH rfl (aa (pv 0) (aa (bh (v:=.int 32) rfl T.c_BLOCK_BITS ⟨_,rfl⟩) ao))) ao)) (ik rfl (bw (aV (i:=3) jf.nd rfl (Or.inl rfl)) (bw (aV (i:=4) jf.nd rfl (Or.inl rfl)) fG))) (aj (aW (PW.pt (ju (aK bJ (pv 4) au (aM _)) (gY (aK bJ (pv 2) (pv 1) (aM _))))) (aq (aB (pv 3))) aL)
  (aq (aG (i:=2) jf.nd rfl (Or.inl rfl) (aF bj (pv 2) (pv 4))))))
  (aq (aB cG)))),?_⟩
 refine ⟨_,rfl,b,32,rfl,by decide,by decide,fun r hr'=>⟨r,_,rfl,SqL.of az,?_⟩⟩
 refine yM (xs:=(bits b 32).map V.int) (fun i σ H'=>(∃ k bt,σ=[some (.int b),some (.int t),some (.int (ones b i)),k,bt])∧aR (upd H r (.lst ((bits b 32).map V.int))) H' ∧ ∀ j:Nat,j < i → ¬ (bit b j=1∧ones b j=t)) ?_ ?_ ?_ ?_
 ·exact ⟨⟨none,none,rfl⟩,aR.refl _,fun j hj=>absurd hj (Nat.not_lt_zero _)⟩
 ·rintro i σ H' hi ⟨_,sm,_⟩
  exact SqL.of (sm _ _ az)
 ·rintro i x σ H' p hx ⟨⟨k,bt,rfl⟩,sm,no⟩ hp
  have hi:i < 32:=by
   have:=(List.getElem?_eq_some_iff.mp hx).1
   rw [List.length_map,bY] at this
   exact this
  have ex:x=.int (bit b i):=by
   rw [List.getElem?_map,oJ hi] at hx
   exact (Option.some.inj hx).symm
  subst ex
  have sm':aR (upd H r (.lst ((bits b 32).map V.int))) (upd H' p (.tup [.int (i:Int),.int (bit b i)])):=sm.trans (aA hp _)
  have smH:=(aA hr' (.lst ((bits b 32).map V.int))).trans sm'
  have next:(∀ j:Nat,j < i + 1 → ¬ (bit b j=1∧ones b j=t)) ↔ ¬ (bit b i=1∧ones b i=t):=by
   refine ⟨fun h=>h i (Nat.lt_succ_self _),fun h j hj=>?_⟩
   rcases Nat.lt_or_ge j i with l | l
   ·exact no j l
   ·have:j=i:=by omega
    subst this
    exact h
  have go : ¬ (bit b i=1∧ones b i=t)→(∃ k bt,[some (V.int b),some (V.int t),some (V.int (ones b i + bit b i)),some (V.int (i:Int)),some (V.int (bit b i))]=[some (.int b),some (.int t),some (.int (ones b (i + 1))),k,bt]) ∧
    aR (upd H r (.lst ((bits b 32).map V.int))) (upd H' p (.tup [.int (i:Int),.int (bit b i)])) ∧ ∀ j:Nat,j < i + 1 → ¬ (bit b j=1∧ones b j=t):=fun h =>
   ⟨⟨_,_,by rw [lG]⟩,sm',next.mpr h⟩
  refine ⟨p,_,rfl,SqT.of az,rfl,_,_,rfl,_,_,rfl,rfl,?_⟩
  refine ⟨_,rfl,rfl,_,rfl,?_⟩
  refine aO (fun c=>?_) (fun c=>?_)
  ·have c1:V.int (bit b i)=V.int 1:=of_decide_eq_true c
   refine ⟨_,rfl,_,rfl,rfl,_,rfl,?_⟩
   refine aO (fun d=>?_) (fun d=>?_)
   ·have d1:V.int (ones b i)=V.int t:=of_decide_eq_true d
    exact ⟨_,rfl,q1 _ smH i hi (V.int.inj c1) (V.int.inj d1)⟩
   ·have d1 : ¬ V.int (ones b i)=V.int t:=fun z=>d (decide_eq_true z)
    exact ⟨_,rfl,_,rfl,_,_,rfl,rfl,go fun z=>d1 (congrArg V.int z.2)⟩
  ·have c1 : ¬ V.int (bit b i)=V.int 1:=fun z=>c (decide_eq_true z)
   exact cW ⟨_,rfl,_,rfl,_,_,rfl,rfl,go fun z=>c1 (congrArg V.int z.1)⟩
 ·rintro σ H' ⟨_,sm,no⟩
  refine q2 _ ((aA hr' _).trans sm) fun k hk=>no k ?_
  rw [List.length_map,bY]
  exact hk
def yH (K:PySem.W.Frag):Sp:=fun vs H Q _ => ∃ (p:Addr) (ns:List Int),vs=[.ref p]∧SqL K H p (ns.map V.int)∧Q (.int (blk ns)) H
theorem yu (T:Tx K mg a):aX P w K mg base CX0 1 a.f_block_of a.fd_block_of ["bits"] (yH K):=by
 refine T.D_block_of.F.ok gR (fun vs H Q E h=>?_) (fun cdv A outer s H vs Q E hr h=>?_)
 ·obtain ⟨p,ns,rfl,_⟩:=h
  rfl
 obtain ⟨p,ns,rfl,hS,q⟩:=h
 refine ⟨_,(aj (aG (i:=1) gR.nd rfl (Or.inl rfl) au)
  (aj (bV PassesOwn.never rfl (Ba rfl T.b_reversed (aa (pv 0) ao) Tw.ie) (aV (i:=2) gR.nd rfl (Or.inl rfl)) (aq (aG (i:=1) gR.nd rfl (Or.inl rfl) (aF bj (aF bR au (pv 1)) (pv 2)))))
  (aq (aB (pv 1))))),?_⟩
 refine ⟨_,rfl,p,_,rfl,hS,?_⟩
 refine wL (xs:=ns.map V.int) (fun i σ H'=>(∃ k,σ=[some (.ref p),some (.int (blk (ns.drop (ns.length - i)))),k])∧H'=H) ?_ ?_ ?_ ?_
 ·refine ⟨⟨none,?_⟩,rfl⟩
  rw [Nat.sub_zero,List.drop_length]
  rfl
 ·rintro i σ H' _ ⟨_,rfl⟩
  exact hS
 ·rintro i x σ H' hi hx ⟨⟨k,rfl⟩,rfl⟩
  obtain ⟨c,hc,rfl⟩:=int_at hx
  rw [List.length_map] at hi hc
  refine ⟨_,rfl,_,_,rfl,rfl,.inl ⟨by decide,by decide⟩,_,rfl,_,_,rfl,rfl,⟨some (.int c),?_⟩,rfl⟩
  have e:ns.drop (ns.length - (i + 1))=c :: ns.drop (ns.length - i):=by
   have e1:ns.length - (i + 1)=ns.length - 1 - i:=by omega
   have e2:ns.length - i=ns.length - 1 - i + 1:=by omega
   rw [e1,e2,List.drop_eq_getElem_cons (by omega)]
   congr 1
   have:=List.getElem?_eq_some_iff.mp hc
   exact this.2
  rw [e]
  rfl
 ·rintro σ H' ⟨⟨k,rfl⟩,rfl⟩
  rw [List.length_map,Nat.sub_self,List.drop_zero]
  exact ⟨_,rfl,q⟩
def Ek:Sp:=fun vs H Q _ => ∃ i:Int,vs=[.int i]∧Q (.bl true) H
theorem jK (T:Tx K mg a):aX P w K mg base CX0 1 a.f_law_whole a.fd_law_whole ["_law_found"] Ek:=by
 refine T.D_law_whole.F.ok wW (fun vs H Q E h=>?_) (fun cdv A outer s H vs Q E hr h=>?_)
 ·obtain ⟨i,rfl,_⟩:=h
  rfl
 obtain ⟨i,rfl,q⟩:=h
 refine ⟨_,(aq (aB (oV (aY tU rfl T.b_isinstance Tw.iQ (aa (pv 0) (aa (wK (v:=.ty "int") rfl T.b_int Tw.wN rfl) ao))) (pO (Ie (aY tU rfl T.b_isinstance Tw.iQ (aa (pv 0) (aa (wK (v:=.ty "bool") rfl T.b_bool Tw.Br rfl) ao)))))))),?_⟩
 refine ⟨_,rfl,_, "int", _,true,rfl,.int i,rfl,true,rfl,fK ?_⟩
 exact ⟨_,rfl,_, "bool", _,false,rfl,.int i,rfl,false,rfl,q⟩
def ww (K:PySem.W.Frag):Sp:=fun vs H Q _ => ∃ (p:Addr) (ns:List Int),vs=[.ref p]∧SqL K H p (ns.map V.int)∧ns.length≤4096∧aU ns∧Q .non H
theorem m6 (T:Tx K mg a):aX P w K mg base CX0 1 a.f_check_row a.fd_check_row ["bits"] (ww K):=by
 refine T.D_check_row.F.ok ou (fun vs H Q E h=>?_) (fun cdv A outer s H vs Q E hr h=>?_)
 ·obtain ⟨p,ns,rfl,_⟩:=h
  rfl
 obtain ⟨p,ns,rfl,hS,hl,hb,q⟩:=h
 refine ⟨_,(aj (aW (aK dF (aY aQ rfl T.b_len Tw.bW (aa (pv 0) ao)) (bh (v:=.int 4096) rfl T.c_MOST_BITS ⟨_,rfl⟩) (aM _)) (aq bU) aL)
  (aq (bV PassesOwn.never rfl (dw (pv 0)) (aV (i:=1) ou.nd rfl (Or.inl rfl)) (aq (aW (PW.pt (ju (aK yS (pv 1) au (aM _)) (gY (aK yS (pv 1) au (aM _))))) (aq bU) aL))))),?_⟩
 refine ⟨_,rfl,p,_,rfl,.inl hS,_,_,rfl,rfl,_,rfl,aO (fun c=>?_) fun _=>?_⟩
 ·have c:=of_decide_eq_true c
  rw [List.length_map] at c
  omega
 refine ⟨_,rfl,p,rfl,⟨_,hS⟩,?_⟩
 refine cO (xs:=ns.map V.int) (fun i σ H'=>(∃ k,σ=[some (.ref p),k])∧H'=H) ⟨⟨none,rfl⟩,rfl⟩ ?_ ?_ ?_
 ·rintro i σ H' _ ⟨_,rfl⟩
  exact hS
 ·rintro i x σ H' hx ⟨⟨k,rfl⟩,rfl⟩
  obtain ⟨c,hc,rfl⟩:=int_at hx
  rcases hb c (List.mem_of_getElem? hc) with rfl | rfl
  ·exact ⟨_,rfl,rfl,_,rfl,uZ rfl (cW ⟨⟨_,rfl⟩,rfl⟩)⟩
  ·refine ⟨_,rfl,rfl,_,rfl,aO (fun _=>⟨_,rfl,rfl,_,rfl,uZ rfl ⟨⟨_,rfl⟩,rfl⟩⟩) fun z=>absurd ?_ z⟩
   decide
 ·rintro σ H' ⟨_,rfl⟩
  exact q
def Du (K:PySem.W.Frag):Sp:=fun vs H Q _ => ∃ (p:Addr) (ns:List Int),vs=[.ref p]∧SqL K H p (ns.map V.int)∧ns.length≤4096∧aU ns ∧ ∀ r H',H r=none→aR H H'→H' r=some (.lst ((cJ ns).map V.int))→Q (.ref r) H'
theorem CW (T:Tx K mg a):aX P w K mg base CX0 2 a.f_packed a.fd_packed ["bits"] (Du K):=by
 refine T.D_packed.F.ok DR (fun vs H Q E h=>?_) (fun cdv A outer s H vs Q E hr h=>?_)
 ·obtain ⟨p,ns,rfl,_⟩:=h
  rfl
 obtain ⟨p,ns,rfl,hS,hl,hb,q⟩:=h
 refine ⟨_,(aj (bc (aD T.D_check_row (m6 T) (by decide) hr aH rfl (aa (pv 0) ao)))
  (aq (aB (rn rfl (fj.one (j:=0) rfl (Or.inl rfl) rfl rfl (Or.inl rfl)) (Cr rfl T.b_range (aa au (aa (aY aQ rfl T.b_len Tw.bW (aa (pv 0) ao)) (aa (bh (v:=.int 32) rfl T.c_BLOCK_BITS ⟨_,rfl⟩) ao)))) (fun _ _ _ _=>qZ) (fun _ _ _ _=>(aD T.D_block_of (yu T) (by decide) hr aH rfl (aa (eF (show SlR _ (Jk K) from gU) (pv 1) (dI (pv 0)) (dI (aF bj (pv 0) (bh (v:=.int 32) rfl T.c_BLOCK_BITS ⟨_,rfl⟩)))) ao))))))),?_⟩
 refine ⟨_,rfl,p,ns,rfl,hS,hl,hb,?_⟩
 refine ⟨_,rfl,p,_,rfl,.inl hS,(ns.map V.int).length,rfl,?_,?_⟩
 ·rw [List.length_map]
  exact Nat.lt_of_le_of_lt hl (by decide)
 rw [List.length_map]
 intro D hD
 refine ⟨fun i m ys H1=>m=many ns.length - i∧i≤many ns.length∧ys=((List.range i).map (bK ns)).map V.int∧aR H H1∧H1 D=some (.lst ys),⟨_,rfl,Nat.zero_le _,rfl,aA hD _,az⟩,?_⟩
 rintro i m ys H1 ⟨rfl,hi,rfl,sm,hD1⟩
 by_cases hlt:i < many ns.length
 ·refine .inr ⟨hlt,fun v H2 y=>?_⟩
  obtain ⟨rfl,rfl⟩:=y
  unfold G9
  refine fK ?_
  refine ⟨_,rfl,_,rfl,_,rfl,_,rfl,_,_,rfl,rfl,_,rfl,p,_,rfl,sm.seq hS,fun p2 hp2=>?_⟩
  have e1:(0:Int) + (i:Int) * 32=((32 * i:Nat):Int):=by omega
  have e2:(0:Int) + (i:Int) * 32 + 32=((32 * i + 32:Nat):Int):=by omega
  rw [e1,show ((32 * i:Nat):Int) + 32=((32 * i + 32:Nat):Int) from by omega,Bl,Nat.add_sub_cancel_left]
  refine ⟨p2,_,rfl,SqL.of az,?_⟩
  have ne:D ≠ p2:=aN hD1 hp2
  refine ⟨by rw [aJ ne]; exact hD1,?_,many ns.length - (i + 1),by omega,rfl,hlt,?_,bG (sm.trans (aA hp2 _)) hD _,az⟩
  ·rw [List.length_map,List.length_map,List.length_range]
   unfold many at hlt
   exact small (by omega)
  ·rw [List.range_succ,List.map_append,List.map_append]
   rfl
 ·have e:i=many ns.length:=by omega
  subst e
  exact .inl ⟨Nat.le_refl _,q D H1 hD sm hD1⟩
def yl (K:PySem.W.Frag):Sp:=fun vs H Q _ => ∃ (p:Addr) (bs:List Int),vs=[.ref p]∧SqL K H p (bs.map V.int)∧bs.length≤4096 ∧ ∀ r H',H r=none→aR H H'→H' r=some (.tup ((fM bs bs.length).map V.int))→Q (.ref r) H'
theorem yG (T:Tx K mg a):aX P w K mg base CX0 4 a.f_ahead_of a.fd_ahead_of ["blocks"] (yl K):=by
 refine T.D_ahead_of.F.ok j9 (fun vs H Q E h=>?_) (fun cdv A outer s H vs Q E hr h=>?_)
 ·obtain ⟨p,bs,rfl,_⟩:=h
  rfl
 obtain ⟨p,bs,rfl,hS,hl,q⟩:=h
 refine ⟨_,(aj (aG (i:=1) j9.nd rfl (Or.inl rfl) (bT (aa au ao)))
  (aj (bV PassesOwn.never rfl (dw (pv 0)) (aV (i:=2) j9.nd rfl (Or.inl rfl)) (aq (bc (eY PySem.F.plainAttrs_list PySem.F.slot_list_append PySem.F.type_list_append bH (pv 1) (aa (aF bj (aZ bD (pv 1) (vp oO au) (fun _ _=>rfl)) (aD T.D_ones_in (tR T) (by decide) hr aH rfl (aa (pv 2) (aa (bh (v:=.int 32) rfl T.c_BLOCK_BITS ⟨_,rfl⟩) ao)))) ao)))))
  (aq (aB (dB lW rfl T.b_tuple Tw.yr (aa (pv 1) ao)))))),?_⟩
 refine ⟨(by show 1≤sizeLine; decide),fun r hr'=>?_⟩
 refine ⟨_,rfl,p,rfl,⟨_,(aA hr' _).seq hS⟩,?_⟩
 refine cO (xs:=bs.map V.int) (fun i σ H'=>(∃ k,σ=[some (.ref p),some (.ref r),k])∧aR H H'∧H' r=some (.lst ((fM bs i).map V.int))) ?_ ?_ ?_ ?_
 ·exact ⟨⟨none,rfl⟩,aA hr' _,az⟩
 ·rintro i σ H' _ ⟨_,sm,_⟩
  exact sm.seq hS
 ·rintro i x σ H' hx ⟨⟨k,rfl⟩,sm,hr1⟩
  obtain ⟨b,hb,rfl⟩:=int_at hx
  have hi:=(List.getElem?_eq_some_iff.mp hb).1
  have hla:atI ((fM bs i).map V.int) (-1)=some (.int (iy bs i)):=by
   rw [yw,List.map_append]
   exact nJ _ _
  refine ⟨_,rfl,.inl ⟨rfl,_,SqL.of hr1⟩,_,rfl,_,rfl,r,_,_,_,rfl,rfl,SqL.of hr1,hla,_,rfl,b,32,rfl,by decide,by decide,fun H2 sm2=>⟨_,_,rfl,rfl,r,_,_,rfl,rfl,sm2 _ _ hr1,?_,⟨_,rfl⟩,bG (sm.trans sm2) hr' _,?_⟩⟩
  ·rw [List.length_map,uL]
   exact small (by omega)
  ·rw [az,xX,List.map_append,qt hb]
   rfl
 ·rintro σ H' ⟨⟨k,rfl⟩,sm,hr1⟩
  rw [List.length_map] at hr1
  exact ⟨_,rfl,r,_,rfl,.inl ⟨SqL.of hr1,fun l hl=>q l _ (sm.free hl) (sm.trans (aA hl _)) az⟩⟩
def Ay:Sp:=fun vs H Q _ => ∃ (b n:Int),vs=[.int b,.int n]∧0≤n∧n≤32 ∧ ∀ r H',H r=none→aR H H'→H' r=some (.lst ((nets b n.toNat).map V.int))→Q (.ref r) H'
theorem jo (T:Tx K mg a):aX P w K mg base CX0 3 a.f_nets_of a.fd_nets_of ["block", "upto"] Ay:=by
 refine T.D_nets_of.F.ok gq (fun vs H Q E h=>?_) (fun cdv A outer s H vs Q E hr h=>?_)
 ·obtain ⟨b,n,rfl,_⟩:=h
  rfl
 obtain ⟨b,n,rfl,h0,h1,q⟩:=h
 refine ⟨_,(aj (aG (i:=2) gq.nd rfl (Or.inl rfl) (bT ao))
  (aj (aG (i:=3) gq.nd rfl (Or.inl rfl) au)
  (aj (bV PassesOwn.never rfl (dw (aD T.D_bits_of (jH T) (by decide) hr aH rfl (aa (pv 0) (aa (pv 1) ao)))) (aV (i:=4) gq.nd rfl (Or.inl rfl)) (aj (aG (i:=3) gq.nd rfl (Or.inl rfl) (aF bB (aF bj (pv 3) (aF bR au (pv 4))) au))
  (aq (bc (eY PySem.F.plainAttrs_list PySem.F.slot_list_append PySem.F.type_list_append bH (pv 2) (aa (pv 3) ao))))))
  (aq (aB (pv 2)))))),?_⟩
 refine ⟨(by show 0≤sizeLine; decide),fun r hr'=>?_⟩
 refine ⟨_,rfl,_,rfl,b,n,rfl,h0,h1,fun p hp=>⟨p,rfl,⟨_,SqL.of az⟩,?_⟩⟩
 have ne:r ≠ p:=aN az hp
 refine cO (xs:=(bits b n.toNat).map V.int) (fun i σ H'=>(∃ k,σ=[some (.int b),some (.int n),some (.ref r),some (.int (net b i)),k])∧aR H H'∧H' r=some (.lst ((nets b i).map V.int))∧H' p=some (.lst ((bits b n.toNat).map V.int))) ?_ ?_ ?_ ?_
 ·refine ⟨⟨none,by rw [Fd]; rfl⟩,(aA hr' _).trans (aA hp _),?_,az⟩
  rw [aJ ne,az]
  rfl
 ·rintro i σ H' _ ⟨_,_,_,hp'⟩
  exact SqL.of hp'
 ·rintro i x σ H' hx ⟨⟨k,rfl⟩,sm,hr1,hp1⟩
  obtain ⟨c,hc,rfl⟩:=int_at hx
  have hi:i < n.toNat:=by
   have:=(List.getElem?_eq_some_iff.mp hc).1
   rw [bY] at this
   exact this
  have ec:c=bit b i:=by
   rw [oJ hi] at hc
   exact (Option.some.inj hc).symm
  subst ec
  refine ⟨_,rfl,_,rfl,_,_,rfl,rfl,.inl ⟨by decide,by decide⟩,_,_,rfl,rfl,_,_,rfl,rfl,?_⟩
  refine ⟨_,rfl,.inl ⟨rfl,_,SqL.of hr1⟩,_,rfl,r,_,_,rfl,rfl,hr1,?_,?_⟩
  ·rw [List.length_map,cQ]
   exact small (by omega)
  ·refine ⟨⟨some (.int (bit b i)),by rw [xO]; rfl⟩,bG sm hr' _,?_,?_⟩
   ·rw [az,CN,xO,List.map_append]
    rfl
   ·rw [aJ (Ne.symm ne)]
    exact hp1
 ·rintro σ H' ⟨⟨k,rfl⟩,sm,hr1,hp1⟩
  rw [List.length_map,bY] at hr1
  exact ⟨_,rfl,q r H' hr' sm hr1⟩
def Dz:Sp:=fun vs H Q _ => ∃ (b n:Int),vs=[.int b,.int n]∧1≤n∧n≤32 ∧ ∀ M H',rE M (nets b n.toNat)→aR H H'→Q (.int M) H'
theorem Dc (T:Tx K mg a):aX P w K mg base CX0 4 a.f_low_in a.fd_low_in ["block", "upto"] Dz:=by
 refine T.D_low_in.F.ok Dv (fun vs H Q E h=>?_) (fun cdv A outer s H vs Q E hr h=>?_)
 ·obtain ⟨b,n,rfl,_⟩:=h
  rfl
 obtain ⟨b,n,rfl,h0,h1,q⟩:=h
 refine ⟨_,(aq (aB (G7 rfl rfl T.b_min (aa (aD T.D_nets_of (jo T) (by decide) hr aH rfl (aa (pv 0) (aa (pv 1) ao))) ao) au Tw.mZ))),?_⟩
 refine ⟨_,rfl,_,rfl,b,n,rfl,by omega,h1,fun p H' hp sm h'=>⟨p,_,rfl,SqL.of h',?_,fun M hM=>q M H' hM sm⟩⟩
 rw [cQ]
 omega
def qT:Sp:=fun vs H Q _ => ∃ (b:Int) (st sp:Nat) (g:Int),vs=[.int b,.int (st:Int),.int (sp:Int),.int g]∧sp≤32 ∧
 (∀ H' (k:Nat),aR H H'→Due b st sp g k→(∀ j,Due b st sp g j→k≤j)→Q (.int (k:Int)) H') ∧ ∀ H',aR H H'→(∀ k,¬ Due b st sp g k)→Q .non H'
theorem qK (T:Tx K mg a):aX P w K mg base CX0 4 a.f_first_low_in a.fd_first_low_in ["block", "start", "stop", "goal"] qT:=by
 refine T.D_first_low_in.F.ok fO (fun vs H Q E h=>?_) (fun cdv A outer s H vs Q E hr h=>?_)
 ·obtain ⟨b,st,sp,g,rfl,_⟩:=h
  rfl
 obtain ⟨b,st,sp,g,rfl,hsp,q1,q2⟩:=h
 refine ⟨_,(aj (bV PassesOwn.never rfl (yV rfl T.b_enumerate (aa (aD T.D_nets_of (jo T) (by decide) hr aH rfl (aa (pv 0) (aa (pv 2) ao))) ao) au) (ik rfl (bw (aV (i:=4) fO.nd rfl (Or.inl rfl)) (bw (aV (i:=5) fO.nd rfl (Or.inl rfl)) fG))) (aq (aW (PW.pt (ju (aK dF (pv 4) (pv 1) (aM _)) (gY (aK dU (pv 5) (pv 3) (aM _))))) (aq (aB (pv 4))) aL)))
  (aq (aB cG))),?_⟩
 refine ⟨_,rfl,_,rfl,b,(sp:Int),rfl,by omega,by omega,fun r H1 hr1 sm1 h1=>?_⟩
 rw [Int.toNat_natCast] at h1
 refine ⟨r,_,rfl,rfl,SqL.of h1,?_⟩
 refine vf (xs:=(nets b sp).map V.int) (fun i σ H'=>(∃ k n,σ=[some (.int b),some (.int (st:Int)),some (.int (sp:Int)),some (.int g),k,n])∧aR H1 H' ∧ ∀ j,j≤i → ¬ Due b st sp g j) ?_ ?_ ?_ ?_
 ·exact ⟨⟨none,none,rfl⟩,aR.refl _,fun j hj d=>by have:=d.1; omega⟩
 ·rintro i σ H' _ ⟨_,sm,_⟩
  exact SqL.of (sm _ _ h1)
 ·rintro i x σ H' p hx ⟨⟨k,n,rfl⟩,sm,no⟩ hp
  obtain ⟨c,hc,rfl⟩:=int_at hx
  have hi:i < sp:=by
   have:=(List.getElem?_eq_some_iff.mp hc).1
   rw [cQ] at this
   exact this
  have ec:c=net b (i + 1):=by
   rw [nR hi] at hc
   exact (Option.some.inj hc).symm
  subst ec
  have sm':aR H1 (upd H' p (.tup [.int ((i + 1:Nat):Int),.int (net b (i + 1))])):=sm.trans (aA hp _)
  have go : ¬ Due b st sp g (i + 1) → ∀ j,j≤i + 1 → ¬ Due b st sp g j:=fun h j hj=>by
   rcases Nat.lt_or_ge i j with l | l
   ·have:j=i + 1:=by omega
    subst this
    exact h
   ·exact no j l
  refine ⟨p,_,rfl,SqT.of az,rfl,_,_,rfl,_,_,rfl,rfl,?_⟩
  refine ⟨_,rfl,_,rfl,_,_,rfl,rfl,_,rfl,aO (fun c1=>?_) fun c1=>?_⟩
  ·have c1:=of_decide_eq_true c1
   refine ⟨_,rfl,_,rfl,_,_,rfl,rfl,_,rfl,aO (fun c2=>?_) fun c2=>?_⟩
   ·have c2:=of_decide_eq_true c2
    exact ⟨_,rfl,q1 _ (i + 1) (sm1.trans sm') ⟨by omega,by omega,c2⟩ fun j d=>by
     rcases Nat.lt_or_ge i j with l | l
     ·exact l
     ·exact absurd d (no j l)⟩
   ·have c2 : ¬ net b (i + 1)≤g:=fun z=>c2 (decide_eq_true z)
    exact ⟨⟨_,_,rfl⟩,sm',go fun d=>c2 d.2.2⟩
  ·have c1 : ¬ (st:Int) < ((i + 1:Nat):Int):=fun z=>c1 (decide_eq_true z)
   exact cW ⟨⟨_,_,rfl⟩,sm',go fun d=>by have:=d.1; omega⟩
 ·rintro σ H' ⟨_,sm,no⟩
  refine q2 _ (sm1.trans sm) fun k d=>no k ?_ d
  rw [List.length_map,cQ]
  exact d.2.1
def rT:Sp:=fun vs H Q _ => ∃ (b:Int) (st sp:Nat) (g:Int),vs=[.int b,.int (st:Int),.int (sp:Int),.int g]∧sp≤32 ∧
 (∀ H' (k:Nat),aR H H'→Due b st sp g k→(∀ j,Due b st sp g j→j≤k)→Q (.int (k:Int)) H') ∧ ∀ H',aR H H'→(∀ k,¬ Due b st sp g k)→Q .non H'
theorem sJ (T:Tx K mg a):aX P w K mg base CX0 4 a.f_last_low_in a.fd_last_low_in ["block", "start", "stop", "goal"] rT:=by
 refine T.D_last_low_in.F.ok cZ (fun vs H Q E h=>?_) (fun cdv A outer s H vs Q E hr h=>?_)
 ·obtain ⟨b,st,sp,g,rfl,_⟩:=h
  rfl
 obtain ⟨b,st,sp,g,rfl,hsp,q1,q2⟩:=h
 refine ⟨_,(aj (aG (i:=4) cZ.nd rfl (Or.inl rfl) cG)
  (aj (bV PassesOwn.never rfl (yV rfl T.b_enumerate (aa (aD T.D_nets_of (jo T) (by decide) hr aH rfl (aa (pv 0) (aa (pv 2) ao))) ao) au) (ik rfl (bw (aV (i:=5) cZ.nd rfl (Or.inl rfl)) (bw (aV (i:=6) cZ.nd rfl (Or.inl rfl)) fG))) (aq (aW (PW.pt (ju (aK dF (pv 5) (pv 1) (aM _)) (gY (aK dU (pv 6) (pv 3) (aM _))))) (aq (aG (i:=4) cZ.nd rfl (Or.inl rfl) (pv 5))) aL)))
  (aq (aB (pv 4))))),?_⟩
 refine ⟨_,rfl,_,rfl,b,(sp:Int),rfl,by omega,by omega,fun r H1 hr1 sm1 h1=>?_⟩
 rw [Int.toNat_natCast] at h1
 refine ⟨r,_,rfl,rfl,SqL.of h1,?_⟩
 refine vf (xs:=(nets b sp).map V.int) (fun i σ H' => ∃ f,(∃ k n,σ=[some (.int b),some (.int (st:Int)),some (.int (sp:Int)),some (.int g),some f,k,n])∧aR H1 H' ∧
  ((f=.non ∧ ∀ j,j≤i → ¬ Due b st sp g j) ∨ ∃ k:Nat,f=.int (k:Int)∧k≤i∧Due b st sp g k ∧ ∀ j,j≤i→Due b st sp g j→j≤k)) ?_ ?_ ?_ ?_
 ·exact ⟨.non,⟨none,none,rfl⟩,aR.refl _,.inl ⟨rfl,fun j hj d=>by have:=d.1; omega⟩⟩
 ·rintro i σ H' _ ⟨_,_,sm,_⟩
  exact SqL.of (sm _ _ h1)
 ·rintro i x σ H' p hx ⟨f,⟨k,n,rfl⟩,sm,hf⟩ hp
  obtain ⟨c,hc,rfl⟩:=int_at hx
  have hi:i < sp:=by
   have:=(List.getElem?_eq_some_iff.mp hc).1
   rw [cQ] at this
   exact this
  have ec:c=net b (i + 1):=by
   rw [nR hi] at hc
   exact (Option.some.inj hc).symm
  subst ec
  have sm':aR H1 (upd H' p (.tup [.int ((i + 1:Nat):Int),.int (net b (i + 1))])):=sm.trans (aA hp _)
  have old : ¬ Due b st sp g (i + 1)→(f=.non ∧ ∀ j,j≤i + 1 → ¬ Due b st sp g j) ∨ ∃ k:Nat,f=.int (k:Int)∧k≤i + 1∧Due b st sp g k ∧ ∀ j,j≤i + 1→Due b st sp g j→j≤k:=fun h=>by
   rcases hf with ⟨e,no⟩ | ⟨k,e,k1,d,mx⟩
   ·refine .inl ⟨e,fun j hj=>?_⟩
    rcases Nat.lt_or_ge i j with l | l
    ·have:j=i + 1:=by omega
     subst this
     exact h
    ·exact no j l
   ·refine .inr ⟨k,e,by omega,d,fun j hj dj=>?_⟩
    rcases Nat.lt_or_ge i j with l | l
    ·have:j=i + 1:=by omega
     subst this
     exact absurd dj h
    ·exact mx j l dj
  refine ⟨p,_,rfl,SqT.of az,rfl,_,_,rfl,_,_,rfl,rfl,?_⟩
  refine ⟨_,rfl,_,rfl,_,_,rfl,rfl,_,rfl,aO (fun c1=>?_) fun c1=>?_⟩
  ·have c1:=of_decide_eq_true c1
   refine ⟨_,rfl,_,rfl,_,_,rfl,rfl,_,rfl,aO (fun c2=>?_) fun c2=>?_⟩
   ·have c2:=of_decide_eq_true c2
    exact ⟨_,rfl,_,⟨_,_,rfl⟩,sm',.inr ⟨i + 1,rfl,Nat.le_refl _,⟨by omega,by omega,c2⟩,fun j hj _=>hj⟩⟩
   ·have c2 : ¬ net b (i + 1)≤g:=fun z=>c2 (decide_eq_true z)
    exact ⟨f,⟨_,_,rfl⟩,sm',old fun d=>c2 d.2.2⟩
  ·have c1 : ¬ (st:Int) < ((i + 1:Nat):Int):=fun z=>c1 (decide_eq_true z)
   exact cW ⟨f,⟨_,_,rfl⟩,sm',old fun d=>by have:=d.1; omega⟩
 ·rintro σ H' ⟨f,⟨k,n,rfl⟩,sm,hf⟩
  rw [List.length_map,cQ] at hf
  refine ⟨_,rfl,?_⟩
  rcases hf with ⟨rfl,no⟩ | ⟨k,rfl,k1,d,mx⟩
  ·exact q2 _ (sm1.trans sm) fun k d=>no k d.2.1 d
  ·exact q1 _ k (sm1.trans sm) d fun j dj=>mx j dj.2.1 dj
def zF:Sp:=fun vs H Q _ => ∃ n:Nat,vs=[.int (n:Int)]∧n≤100000 ∧ ∀ S,ir n S→Q (.int (S:Int)) H
theorem jA (T:Tx K mg a):aX P w K mg base CX0 1 a.f_size_of a.fd_size_of ["many"] zF:=by
 refine T.D_size_of.F.ok mG (fun vs H Q E h=>?_) (fun cdv A outer s H vs Q E hr h=>?_)
 ·obtain ⟨n,rfl,_⟩:=h
  rfl
 obtain ⟨n,rfl,hn,q⟩:=h
 refine ⟨_,(aj (aG (i:=1) mG.nd rfl (Or.inl rfl) au)
  (aj (gB PassesOwn.never (aK ji (pv 1) (pv 0) (aM _)) (aq (aG (i:=1) mG.nd rfl (Or.inl rfl) (aF bR au (pv 1)))))
  (aq (aB (pv 1))))),?_⟩
 refine ⟨fun m σ H' => ∃ h:Nat,σ=[some (.int (n:Int)),some (.int ((2 ^ h:Nat):Int))]∧H'=H∧m=n - 2 ^ h ∧ ∀ j,j < h→2 ^ j < n,⟨_,0,rfl,rfl,rfl,fun j hj=>absurd hj (Nat.not_lt_zero _)⟩,?_⟩
 rintro m σ H' ⟨h,rfl,rfl,rfl,hj⟩
 refine ⟨_,rfl,_,rfl,_,_,rfl,rfl,_,rfl,aO (fun c=>?_) fun c=>?_⟩
 ·have c:((2 ^ h:Nat):Int) < (n:Int):=of_decide_eq_true c
  have hp:0 < 2 ^ h:=Nat.two_pow_pos h
  refine ⟨_,fun σ' H2 z=>z,_,rfl,_,_,rfl,rfl,.inl ⟨by decide,by decide⟩,n - 2 ^ (h + 1),by rw [Nat.pow_succ]; omega,h + 1,?_,rfl,rfl,fun j hj2=>?_⟩
  ·have e:(2:Int) * ((2 ^ h:Nat):Int)=((2 ^ (h + 1):Nat):Int):=by rw [Nat.pow_succ]; omega
   rw [← e]
   rfl
  ·rcases Nat.lt_or_ge j h with l | l
   ·exact hj j l
   ·have:j=h:=by omega
    subst this
    omega
 ·have c : ¬ ((2 ^ h:Nat):Int) < (n:Int):=fun z=>c (decide_eq_true z)
  exact ⟨_,rfl,q (2 ^ h) ⟨h,rfl,by omega,hj⟩⟩
abbrev nats (l:List Nat):List V:=l.map fun n:Nat=>V.int (n:Int)
def o6:Sp:=fun vs H Q _ => ∃ n st sp:Nat,vs=[.int (n:Int),.int (st:Int),.int (sp:Int)]∧st≤sp∧sp≤n∧Q .non H
theorem pD (T:Tx K mg a):aX P w K mg base CX0 1 a.f_check_stretch a.fd_check_stretch ["many", "start", "stop"] o6:=by
 refine T.D_check_stretch.F.ok pR (fun vs H Q E h=>?_) (fun cdv A outer s H vs Q E hr h=>?_)
 ·obtain ⟨n,st,sp,rfl,_⟩:=h
  rfl
 obtain ⟨n,st,sp,rfl,h1,h2,q⟩:=h
 refine ⟨_,(aq (aW (j6 (u9 dU dU dU au (pv 1) (pv 2) (pv 0))) (aq bU) aL)),?_⟩
 refine ⟨_,rfl,_,_,rfl,rfl,_,rfl,aO (fun _=>?_) fun z=>absurd (decide_eq_true (show (0:Int)≤(st:Int) from by omega)) z⟩
 refine ⟨_,rfl,_,_,rfl,rfl,_,rfl,aO (fun _=>?_) fun z=>absurd (decide_eq_true (show (st:Int)≤(sp:Int) from by omega)) z⟩
 refine ⟨_,rfl,_,_,rfl,rfl,_,rfl,?_⟩
 rw [decide_eq_true (show (sp:Int)≤(n:Int) from by omega)]
 exact cW q
def FN:Sp:=fun vs H Q _ => ∃ many st sp:Nat,vs=[.int (many:Int),.int (st:Int),.int (sp:Int)]∧st≤sp∧sp≤many∧many≤4096 ∧ ∀ S r H',ir many S→H r=none→aR H H'→H' r=some (.lst (nats (cover S st sp)))→Q (.ref r) H'
theorem sS (T:Tx K mg a):aX P w K mg base CX0 2 a.f_cover a.fd_cover ["many", "start", "stop"] FN:=by
 refine T.D_cover.F.ok dH (fun vs H Q E h=>?_) (fun cdv A outer s H vs Q E hr h=>?_)
 ·obtain ⟨n,st,sp,rfl,_⟩:=h
  rfl
 obtain ⟨n,st,sp,rfl,h1,h2,h3,q⟩:=h
 refine ⟨_,(aj (bc (aD T.D_check_stretch (pD T) (by decide) hr aH rfl (aa (pv 0) (aa (pv 1) (aa (pv 2) ao)))))
  (aj (aG (i:=3) dH.nd rfl (Or.inl rfl) (aD T.D_size_of (jA T) (by decide) hr aH rfl (aa (pv 0) ao)))
  (aj (aG (i:=4) dH.nd rfl (Or.inl rfl) (aF bj (pv 3) (pv 1)))
  (aj (aG (i:=5) dH.nd rfl (Or.inl rfl) (aF bj (pv 3) (pv 2)))
  (aj (aG (i:=6) dH.nd rfl (Or.inl rfl) (bT ao))
  (aj (aG (i:=7) dH.nd rfl (Or.inl rfl) (bT ao))
  (aj (gB PassesOwn.never (aK ji (pv 4) (pv 5) (aM _)) (aj (aW (aK bJ (aF cR (pv 4) au) au (aM _)) (aj (bc (eY PySem.F.plainAttrs_list PySem.F.slot_list_append PySem.F.type_list_append bH (pv 6) (aa (pv 4) ao)))
  (aq (aG (i:=4) dH.nd rfl (Or.inl rfl) (aF bj (pv 4) au)))) aL)
  (aj (aW (aK bJ (aF cR (pv 5) au) au (aM _)) (aj (aG (i:=5) dH.nd rfl (Or.inl rfl) (aF bB (pv 5) au))
  (aq (bc (eY PySem.F.plainAttrs_list PySem.F.slot_list_append PySem.F.type_list_append bH (pv 7) (aa (pv 5) ao))))) aL)
  (aj (aG (i:=4) dH.nd rfl (Or.inl rfl) (aF cu (pv 4) au))
  (aq (aG (i:=5) dH.nd rfl (Or.inl rfl) (aF cu (pv 5) au)))))))
  (aq (aB (aF iD (pv 6) (Ag rfl rfl T.b_list Tw.rz rfl T.b_reversed Tw.ie (aa (pv 7) ao)))))))))))),?_⟩
 refine ⟨_,rfl,_,rfl,_,rfl,n,st,sp,rfl,h1,h2,?_⟩
 refine ⟨_,rfl,n,rfl,by omega,fun S hS=>?_⟩
 refine ⟨_,rfl,_,rfl,_,_,rfl,rfl,?_⟩
 refine ⟨_,rfl,_,rfl,_,_,rfl,rfl,?_⟩
 refine ⟨(by show 0≤sizeLine; decide),fun lf hlf=>?_⟩
 refine ⟨(by show 0≤sizeLine; decide),fun rg hrg=>?_⟩
 have nlr:lf ≠ rg:=aN az hrg
 have hrg0:=(aA hlf (.lst [])).free hrg
 have smA:=(aA hlf (.lst [])).trans (aA hrg (.lst []))
 have hS4:=hS.le h3
 refine ⟨fun m σ H' => ∃ (low high f:Nat) (ls rs:List Nat),σ=[some (.int (n:Int)),some (.int (st:Int)),some (.int (sp:Int)),some (.int (S:Int)),some (.int (low:Int)),some (.int (high:Int)),some (.ref lf),some (.ref rg)]∧m=high - low∧aR H H'∧H' lf=some (.lst (nats ls))∧H' rg=some (.lst (nats rs))∧high - low≤f∧uJ f low high ls rs=cover S st sp∧ls.length + rs.length + 2 * f≤20000,
  ⟨_,S + st,S + sp,sp - st,[],[],rfl,rfl,smA,by rw [aJ nlr,az]; rfl,az,by omega,rfl,by simp; omega⟩,?_⟩
 rintro m σ H' ⟨low,high,f,ls,rs,rfl,rfl,sm,hl,hrr,hf,hw,hz⟩
 refine ⟨_,rfl,_,rfl,_,_,rfl,rfl,_,rfl,aO (fun c=>?_) fun c=>?_⟩
 ·have c:(low:Int) < (high:Int):=of_decide_eq_true c
  obtain ⟨f,rfl⟩ : ∃ g,f=g + 1:=⟨f - 1,by omega⟩
  unfold uJ at hw
  rw [if_pos (by omega)] at hw
  refine ⟨_,fun σ' H2 z=>z,?_⟩
  refine ⟨_,rfl,_,_,rfl,rfl,(by show (0:Int) < 2; decide),rfl,_,rfl,?_⟩
  refine vO (fun σ H2 => ∃ (ls2:List Nat),σ=[some (.int (n:Int)),some (.int (st:Int)),some (.int (sp:Int)),some (.int (S:Int)),some (.int ((low + low % 2:Nat):Int)),some (.int (high:Int)),some (.ref lf),some (.ref rg)]∧ls2=(if low % 2=1 then ls ++ [low] else ls)∧aR H H2∧H2 lf=some (.lst (nats ls2))∧H2 rg=some (.lst (nats rs))) (fun d=>?_) ?_ (fun d m=>?_)
  ·have d : ¬ (low:Int) % 2=1:=fun z=>d (decide_eq_true (congrArg V.int z))
   refine ⟨ls,?_,by rw [if_neg (by omega)],sm,hl,hrr⟩
   rw [show low + low % 2=low from by omega]
  rotate_left
  ·have d:V.int ((low:Int) % 2)=V.int 1:=of_decide_eq_true d
   injection d with d
   refine ⟨_,rfl,.inl ⟨rfl,_,SqL.of hl⟩,_,rfl,lf,_,_,rfl,rfl,hl,?_,?_⟩
   ·rw [List.length_map,sizeLine_eq]
    omega
   refine ⟨_,rfl,_,_,rfl,rfl,m _ _ ⟨ls ++ [low],?_,by rw [if_pos (by omega)],bG sm hlf _,?_,?_⟩⟩
   ·rw [show ((low + low % 2:Nat):Int)=(low:Int) + 1 from by omega]
    rfl
   ·rw [az]
    unfold nats
    rw [List.map_append]
    rfl
   ·rw [aJ nlr.symm]
    exact hrr
  rintro σ2 H2 ⟨ls2,rfl,e2,sm2,hl2,hr2⟩
  refine ⟨_,rfl,_,_,rfl,rfl,(by show (0:Int) < 2; decide),rfl,_,rfl,?_⟩
  refine vO (fun σ H3 => ∃ (rs2:List Nat),σ=[some (.int (n:Int)),some (.int (st:Int)),some (.int (sp:Int)),some (.int (S:Int)),some (.int ((low + low % 2:Nat):Int)),some (.int ((high - high % 2:Nat):Int)),some (.ref lf),some (.ref rg)]∧rs2=(if high % 2=1 then rs ++ [high - 1] else rs)∧aR H H3∧H3 lf=some (.lst (nats ls2))∧H3 rg=some (.lst (nats rs2))) (fun d=>?_) ?_ (fun d m=>?_)
  ·have d : ¬ (high:Int) % 2=1:=fun z=>d (decide_eq_true (congrArg V.int z))
   refine ⟨rs,?_,by rw [if_neg (by omega)],sm2,hl2,hr2⟩
   rw [show high - high % 2=high from by omega]
  rotate_left
  ·have d:V.int ((high:Int) % 2)=V.int 1:=of_decide_eq_true d
   injection d with d
   refine ⟨_,rfl,_,_,rfl,rfl,?_⟩
   refine ⟨_,rfl,.inl ⟨rfl,_,SqL.of hr2⟩,_,rfl,rg,_,_,rfl,rfl,hr2,?_,m _ _ ⟨rs ++ [high - 1],?_,by rw [if_pos (by omega)],bG sm2 hrg0 _,?_,?_⟩⟩
   ·rw [List.length_map,sizeLine_eq]
    omega
   ·rw [show ((high - high % 2:Nat):Int)=(high:Int) - 1 from by omega]
    rfl
   ·rw [aJ nlr]
    exact hl2
   ·rw [az]
    unfold nats
    rw [List.map_append]
    exact congrArg (fun v=>some (HO.lst (rs.map (fun n:Nat=>V.int (n:Int)) ++ [v]))) (congrArg V.int (show (high:Int) - 1=((high - 1:Nat):Int) from by omega))
  rintro σ3 H3 ⟨rs2,rfl,e3,sm3,hl3,hr3⟩
  rw [← e2,← e3] at hw
  have z2:ls2.length≤ls.length + 1:=by
   rw [e2]
   split <;> simp
  have z3:rs2.length≤rs.length + 1:=by
   rw [e3]
   split <;> simp
  refine ⟨_,rfl,_,_,rfl,rfl,⟨by decide,by decide⟩,?_⟩
  refine ⟨_,rfl,_,_,rfl,rfl,⟨by decide,by decide⟩,(high - high % 2) / 2 - (low + low % 2) / 2,by omega,(low + low % 2) / 2,(high - high % 2) / 2,f,ls2,rs2,?_,rfl,sm3,hl3,hr3,by omega,hw,by omega⟩
  rw [show (((low + low % 2) / 2:Nat):Int)=((low + low % 2:Nat):Int) / 2 from by omega,show (((high - high % 2) / 2:Nat):Int)=((high - high % 2:Nat):Int) / 2 from by omega]
  rfl
 ·have c : ¬ (low:Int) < (high:Int):=fun z=>c (decide_eq_true z)
  rw [Gb (by omega)] at hw
  refine ⟨_,rfl,_,rfl,rg,_,rfl,SqL.of hrr,fun l hl2=>?_⟩
  have s2:=aA hl2 (.lst (nats rs).reverse)
  refine ⟨lf,l,_,_,rfl,rfl,s2 _ _ hl,az,?_,fun r hr2=>?_⟩
  ·rw [List.length_reverse,List.length_map,List.length_map,sizeLine_eq]
   omega
  refine q S r _ hS ((sm.trans s2).free hr2) (sm.trans (s2.trans (aA hr2 _))) ?_
  rw [az,← hw]
  unfold nats
  rw [List.map_append,List.map_reverse]
def Cv:Sp:=fun vs H Q _ => ∃ x y:V,vs=[x,y]∧NI x∧NI y∧Q (vz x y) H
theorem vW (T:Tx K mg a):aX P w K mg base CX0 1 a.f_lesser_of a.fd_lesser_of ["one", "other"] Cv:=by
 refine T.D_lesser_of.F.ok wY (fun vs H Q E h=>?_) (fun cdv A outer s H vs Q E hr h=>?_)
 ·obtain ⟨x,y,rfl,_⟩:=h
  rfl
 obtain ⟨x,y,rfl,hx,hy,q⟩:=h
 refine ⟨_,(aj (aW (gP (jG (pv 0))) (aq (aB (pv 1))) aL)
  (aj (aW (gP (jG (pv 1))) (aq (aB (pv 0))) aL)
  (aq (aB (aY (pP rfl) rfl T.b_min Tw.mZ (aa (pv 0) (aa (pv 1) ao))))))),?_⟩
 rcases hx with rfl | ⟨i,rfl⟩
 ·rw [vA] at q
  exact ⟨_,rfl,_,rfl,fK ⟨_,rfl,q⟩⟩
 refine ⟨_,rfl,_,rfl,cW ?_⟩
 rcases hy with rfl | ⟨j,rfl⟩
 ·exact ⟨_,rfl,_,rfl,fK ⟨_,rfl,q⟩⟩
 exact ⟨_,rfl,_,rfl,cW ⟨_,rfl,_,rfl,i,j,rfl,q⟩⟩
def zL (K:PySem.W.Frag):Sp:=fun vs H Q E => ∃ (p:Addr) (ns:List Int),vs=[.ref p]∧SqL K H p (ns.map V.int) ∧
 ns.length≤4096 ∧ ∀ S r H' xs,ir ns.length S→H r=none→aR H H'→H' r=some (.lst xs)→fU ns S 1 xs→Q (.ref r) H'
theorem zA (T:Tx K mg a):aX P w K mg base CX0 2 a.f_heap_of a.fd_heap_of ["numbers"] (zL K):=by
 refine T.D_heap_of.F.ok jl (fun vs H Q E h=>?_) (fun cdv A outer s H vs Q E hr h=>?_)
 ·obtain ⟨p,ns,rfl,_⟩:=h
  rfl
 obtain ⟨p,ns,rfl,hS,hl,q⟩:=h
 refine ⟨_,(aj (aW (aK dF (aY aQ rfl T.b_len Tw.bW (aa (pv 0) ao)) (bh (v:=.int 4096) rfl T.c_MOST_NUMBERS ⟨_,rfl⟩) (aM _)) (aq bU) aL)
  (aj (aG (i:=1) jl.nd rfl (Or.inl rfl) (aD T.D_size_of (jA T) (by decide) hr aH rfl (aa (aY aQ rfl T.b_len Tw.bW (aa (pv 0) ao)) ao)))
  (aj (aG (i:=2) jl.nd rfl (Or.inl rfl) (aF iD (aF iD (aF ug (bT (aa cG ao)) (pv 1)) (dB jr rfl T.b_list Tw.rz (aa (pv 0) ao))) (aF ug (bT (aa cG ao)) (aF bB (pv 1) (aY aQ rfl T.b_len Tw.bW (aa (pv 0) ao))))))
  (aj (bV PassesOwn.never rfl (Av rfl T.b_range (aa (aF bB (pv 1) au) (aa au (aa (vp oO au) ao)))) (aV (i:=3) jl.nd rfl (Or.inl rfl)) (aq (mq (aD T.D_lesser_of (vW T) (by decide) hr aH rfl (aa (aZ bD (pv 2) (aF bR au (pv 3)) (fun _ _=>rfl)) (aa (aZ bD (pv 2) (aF bj (aF bR au (pv 3)) au) (fun _ _=>rfl)) ao))) (zE (pv 2) (pv 3) set_list))))
  (aq (aB (pv 2))))))),?_⟩
 have ern:(ns.map V.int).length=ns.length:=List.length_map ..
 refine ⟨_,rfl,p,_,rfl,.inl hS,_,_,rfl,rfl,_,rfl,aO (fun z=>?_) fun _=>?_⟩
 ·have z:(4096:Int) < ((ns.map V.int).length:Int):=of_decide_eq_true z
  omega
 refine ⟨_,rfl,p,_,rfl,.inl hS,ns.length,?_,by omega,fun S hSz=>?_⟩
 ·rw [ern]
  rfl
 have hS0:=hSz.pos
 have hS4:=hSz.le hl
 have hlS:ns.length≤S:=by
  obtain ⟨_,_,z,_⟩:=hSz
  exact z
 refine Bt (t:=Ho (tC .non) Jm) (σ:=[some (.ref p),some (.int (S:Int)),none,none]) (i:=1) (k:=(S:Int)) (xs:=[.non]) (fun Q' q=>q) rfl (by omega) (by decide) (by omega) fun p1 H1 hp1 s1 x1=>?_
 refine ⟨_,rfl,p,_,rfl,.inl (s1.seq hS),fun l2 hl2=>?_⟩
 have s2:=aA hl2 (.lst (ns.map V.int))
 have e1:(List.replicate (S:Int).toNat [V.non]).flatten=List.replicate S V.non:=by
  rw [Int.toNat_natCast]
  simp
 rw [e1] at x1
 refine ⟨p1,l2,_,_,rfl,rfl,s2 _ _ x1,az,?_,fun p3 hp3=>?_⟩
 ·rw [ern,List.length_replicate,sizeLine_eq]
  omega
 have s3:=aA hp3 (.lst (List.replicate S V.non ++ ns.map V.int))
 refine ⟨(by show 1≤sizeLine; decide),fun l4 hl4=>?_⟩
 have s4:=aA hl4 (.lst [.non])
 have s14:=s1.trans (s2.trans (s3.trans s4))
 refine ⟨_,rfl,_,rfl,p,_,rfl,.inl (s14.seq hS),_,_,rfl,rfl,l4,((S - ns.length:Nat):Int),[.non],rfl,?_,az,by omega,by omega,?_,fun p5 hp5=>?_⟩
 ·show V.int ((S:Int) - ((ns.map V.int).length:Int))=_
  rw [ern]
  exact congrArg V.int (by omega)
 ·rw [sizeLine_eq]
  show 1 * _≤_
  omega
 have e5:(List.replicate ((S - ns.length:Nat):Int).toNat [V.non]).flatten=List.replicate (S - ns.length) V.non:=by
  rw [Int.toNat_natCast]
  simp
 rw [e5]
 have s5:=aA hp5 (.lst (List.replicate (S - ns.length) V.non))
 refine ⟨p3,p5,_,_,rfl,rfl,s5 _ _ (s4 _ _ az),az,?_,fun r hr'=>?_⟩
 ·rw [List.length_append,ern,List.length_replicate,List.length_replicate,sizeLine_eq]
  omega
 have s15:=s14.trans s5
 have hr0:=s15.free hr'
 have s6:=s15.trans (aA hr' (.lst (List.replicate S V.non ++ ns.map V.int ++ List.replicate (S - ns.length) V.non)))
 refine ⟨_,rfl,_,_,rfl,rfl,_,rfl,S - 1,0,?_,by omega,by omega,?_⟩
 ·rw [show ((S - 1:Nat):Int)=(S:Int) - 1 from by omega]
  rfl
 refine Gg (n:=S - 1 - 0) (fun i σ H'=>(∃ k3,σ=[some (.ref p),some (.int (S:Int)),some (.ref r),k3])∧aR H H' ∧ ∃ xs,H' r=some (.lst xs)∧fU ns S (S - i) xs) ⟨⟨none,rfl⟩,s6,_,az,fU.start hS0 hlS⟩ ?_ ?_
 ·rintro i σ H' hi ⟨⟨k3,rfl⟩,sm,xs,hr1,hv⟩
  obtain ⟨k,rfl⟩ : ∃ k,S=k + i + 1:=⟨S - i - 1,by omega⟩
  have ek:((k + i + 1 - 1:Nat):Int) + (i:Int) * (-1)=(k:Int):=by omega
  rw [show k + i + 1 - i=k + 1 from by omega] at hv
  have hlen:=hv.len
  have hx:xs[2 * k]?=some xs[2 * k]:=List.getElem?_eq_getElem (by omega)
  have hy:xs[2 * k + 1]?=some xs[2 * k + 1]:=List.getElem?_eq_getElem (by omega)
  have ha:atI xs (2 * (((k + i + 1 - 1:Nat):Int) + (i:Int) * (-1)))=some xs[2 * k]:=by
   rw [ek,show 2 * (k:Int)=((2 * k:Nat):Int) from by omega]
   exact lN hx
  have hb:atI xs (2 * (((k + i + 1 - 1:Nat):Int) + (i:Int) * (-1)) + 1)=some xs[2 * k + 1]:=by
   rw [ek,show 2 * (k:Int) + 1=((2 * k + 1:Nat):Int) from by omega]
   exact lN hy
  have hix:ixN xs.length (((k + i + 1 - 1:Nat):Int) + (i:Int) * (-1))=some k:=by
   rw [ek]
   exact wH (by omega)
  refine ⟨_,rfl,_,rfl,_,_,rfl,rfl,.inl ⟨by decide,by decide⟩,r,_,_,_,rfl,rfl,SqL.of hr1,ha,?_⟩
  refine ⟨_,rfl,_,rfl,_,_,rfl,rfl,.inl ⟨by decide,by decide⟩,_,_,rfl,rfl,r,_,_,_,rfl,rfl,SqL.of hr1,hb,?_⟩
  refine ⟨_,_,rfl,hv.ni _ (List.getElem_mem _),hv.ni _ (List.getElem_mem _),?_⟩
  refine ⟨_,rfl,_,rfl,r,_,_,k,rfl,rfl,hr1,hix,⟨_,rfl⟩,bG sm hr0 _,_,az,?_⟩
  rw [show k + i + 1 - (i + 1)=k from by omega]
  exact hv.step (by omega) (by omega) hx hy
 ·rintro σ H' ⟨⟨k3,rfl⟩,sm,xs,hr1,hv⟩
  rw [show S - (S - 1 - 0)=1 from by omega] at hv
  exact ⟨_,rfl,q S r H' xs hSz hr0 sm hr1 hv⟩
def Bc (K:PySem.W.Frag):Sp:=fun vs H Q _ => ∃ (p:Addr) (ns:List Int),vs=[.ref p]∧SqL K H p (ns.map V.int) ∧ ∀ b H',(b=true ↔ Tree ns)→aR H H'→Q (.bl b) H'
theorem Al (T:Tx K mg a):aX P w K mg base CX0 1 a.f_is_tree a.fd_is_tree ["bits"] (Bc K):=by
 refine T.D_is_tree.F.ok gO (fun vs H Q E h=>?_) (fun cdv A outer s H vs Q E hr h=>?_)
 ·obtain ⟨p,ns,rfl,_⟩:=h
  rfl
 obtain ⟨p,ns,rfl,hS,q⟩:=h
 refine ⟨_,(aj (aG (i:=1) gO.nd rfl (Or.inl rfl) au)
  (aj (bV PassesOwn.never rfl (wk rfl T.b_enumerate (aa (pv 0) ao)) (ik rfl (bw (aV (i:=2) gO.nd rfl (Or.inl rfl)) (bw (aV (i:=3) gO.nd rfl (Or.inl rfl)) fG))) (aj (aW (PW.pt (ju (aK dF (pv 2) au (aM _)) (gY (aK dU (pv 1) au (aM _))))) (aq (aB vh)) aL)
  (aq (aG (i:=1) gO.nd rfl (Or.inl rfl) (aF bB (aF bj (pv 1) (aF bR au (pv 3))) au)))))
  (aq (aB (oV (eH xn (aY aQ rfl T.b_len Tw.bW (aa (pv 0) ao)) au (aM _)) (pO (eH bJ (pv 1) au (aM _)))))))),?_⟩
 refine ⟨_,rfl,p,_,rfl,hS,?_⟩
 refine yM (xs:=ns.map V.int) (fun i σ H'=>(∃ k2 k3,σ=[some (.ref p),some (.int (ht ns i)),k2,k3])∧aR H H' ∧ ∀ k,0 < k→k < i→0 < ht ns k) ⟨⟨none,none,by rw [eU]; rfl⟩,aR.refl _,fun k _ h=>absurd h (Nat.not_lt_zero _)⟩ ?_ ?_ ?_
 ·rintro i σ H' _ ⟨_,sm,_⟩
  exact sm.seq hS
 ·rintro i x σ H' pt hx ⟨⟨k2,k3,rfl⟩,sm,up⟩ hpt
  obtain ⟨b,hb,rfl⟩:=int_at hx
  have hi:=(List.getElem?_eq_some_iff.mp hb).1
  have sm':=sm.trans (aA hpt (.tup [.int (i:Int),.int b]))
  refine ⟨pt,_,rfl,SqT.of az,rfl,_,_,rfl,_,_,rfl,rfl,?_⟩
  have go:(0 < i→0 < ht ns i)→(∃ k2 k3,[some (V.ref p),some (.int (ht ns i + 2 * b - 1)),some (.int (i:Int)),some (.int b)]=[some (.ref p),some (.int (ht ns (i + 1))),k2,k3])∧aR H (upd H' pt (.tup [.int (i:Int),.int b])) ∧ ∀ k,0 < k→k < i + 1→0 < ht ns k:=fun h =>
   ⟨⟨_,_,by rw [dC hb]⟩,sm',fun k k0 k1=>by
    rcases Nat.lt_or_ge k i with l | l
    ·exact up k k0 l
    ·have:k=i:=by omega
     subst this
     exact h k0⟩
  refine ⟨_,rfl,_,_,rfl,rfl,_,rfl,aO (fun c1=>?_) fun c1=>?_⟩
  ·have c1:(0:Int) < (i:Int):=of_decide_eq_true c1
   refine ⟨_,rfl,_,_,rfl,rfl,_,rfl,aO (fun c2=>?_) fun c2=>?_⟩
   ·have c2:ht ns i≤0:=of_decide_eq_true c2
    exact q false _ ⟨fun z=>absurd z Bool.false_ne_true,fun t=>by have:=t.2.2 i (by omega) hi; omega⟩ sm'
   ·have c2 : ¬ ht ns i≤0:=fun z=>c2 (decide_eq_true z)
    exact ⟨_,rfl,_,rfl,_,_,rfl,rfl,.inl ⟨by decide,by decide⟩,_,_,rfl,rfl,_,_,rfl,rfl,go fun _=>by omega⟩
  ·have c1 : ¬ (0:Int) < (i:Int):=fun z=>c1 (decide_eq_true z)
   refine cW ?_
   exact ⟨_,rfl,_,rfl,_,_,rfl,rfl,.inl ⟨by decide,by decide⟩,_,_,rfl,rfl,_,_,rfl,rfl,go fun z=>by omega⟩
 ·rintro σ H' ⟨⟨k2,k3,rfl⟩,sm,up⟩
  rw [List.length_map] at up ⊢
  refine ⟨_,rfl,p,_,rfl,.inl (sm.seq hS),_,_,rfl,rfl,_,rfl,aO (fun c1=>?_) fun c1=>?_⟩
  ·have c1:(2:Int)≤((ns.map V.int).length:Int):=of_decide_eq_true c1
   rw [List.length_map] at c1
   refine ⟨_,rfl,rfl,?_⟩
   refine q _ H' ?_ sm
   rw [decide_eq_true_iff]
   exact ⟨fun z=>⟨by omega,V.int.inj z,up⟩,fun t=>congrArg V.int t.2.1⟩
  ·have c1 : ¬ (2:Int)≤((ns.map V.int).length:Int):=fun z=>c1 (decide_eq_true z)
   rw [List.length_map] at c1
   exact q false H' ⟨fun z=>absurd z Bool.false_ne_true,fun t=>by have:=t.1; omega⟩ sm
structure Tab (H:Hp) (t ah:Addr) (ns:List Int) (rest:List V):Prop where
 tup:H t=some (.tup (.int (ns.length:Int) :: .ref ah :: rest))
 ahs:H ah=some (.tup ((ahd ns (many ns.length)).map V.int))
 few:rest.length≤1
theorem Tab.same {H H':Hp} {t ah:Addr} {ns:List Int} {rest:List V} (h:Tab H t ah ns rest) (s:aR H H'):Tab H' t ah ns rest:=⟨s _ _ h.tup,s _ _ h.ahs,h.few⟩
theorem lJ (x y:V) : ∀ rest:List V,rest.length≤1→atI (x :: y :: rest) 0=some x
 | [],_=>rfl
 | [_],_=>rfl
 | _ :: _ :: _,h=>absurd h (by simp)
theorem qX (x y:V) : ∀ rest:List V,rest.length≤1→atI (x :: y :: rest) 1=some y
 | [],_=>rfl
 | [_],_=>rfl
 | _ :: _ :: _,h=>absurd h (by simp)
theorem Fv {ns:List Int} {n j:Nat} (h:j≤n):atI ((ahd ns n).map V.int) (j:Int)=some (.int (ns.take (32 * j)).sum):=ig (nu h)
def yO (K:PySem.W.Frag):Sp:=fun vs H Q _ => ∃ (p:Addr) (ns:List Int),vs=[.ref p]∧SqL K H p (ns.map V.int)∧ns.length≤4096∧aU ns ∧
 ∀ r b t ah H',H b=none→aR H H'→H' r=some (.tup [.ref t,.ref b])→Tab H' t ah ns []→H' b=some (.lst ((cJ ns).map V.int))→Q (.ref r) H'
theorem xG (T:Tx K mg a):aX P w K mg base CX0 5 a.f_kept_row a.fd_kept_row ["bits"] (yO K):=by
 refine T.D_kept_row.F.ok qC (fun vs H Q E h=>?_) (fun cdv A outer s H vs Q E hr h=>?_)
 ·obtain ⟨p,ns,rfl,_⟩:=h
  rfl
 obtain ⟨p,ns,rfl,hS,hl,hb,q⟩:=h
 refine ⟨_,(aj (aG (i:=1) qC.nd rfl (Or.inl rfl) (aD T.D_packed (CW T) (by decide) hr aH rfl (aa (pv 0) ao)))
  (aq (aB (mK (aa (mK (aa (aY aQ rfl T.b_len Tw.bW (aa (pv 0) ao)) (aa (aD T.D_ahead_of (yG T) (by decide) hr aH rfl (aa (pv 1) ao)) ao))) (aa (pv 1) ao)))))),?_⟩
 refine ⟨_,rfl,p,ns,rfl,hS,hl,hb,fun b H1 hb0 sm1 h1=>?_⟩
 refine ⟨_,rfl,p,_,rfl,.inl (sm1.seq hS),_,rfl,b,cJ ns,rfl,SqL.of h1,?_,fun ah H2 hah sm2 h2=>?_⟩
 ·rw [bA]
  unfold many
  omega
 rw [wX hb] at h2
 have ern:(ns.map V.int).length=ns.length:=List.length_map ..
 rw [ern]
 refine ⟨(by show 2≤sizeLine; decide),fun t ht=>⟨_,rfl,(by show 2≤sizeLine; decide),fun r hr'=>?_⟩⟩
 have s3:=aA ht (.tup [.int (ns.length:Int),.ref ah])
 have s4:=aA hr' (.tup [.ref t,.ref b])
 exact q r b t ah _ hb0 (sm1.trans (sm2.trans (s3.trans s4))) az ⟨s4 _ _ az,s4 _ _ (s3 _ _ h2),by decide⟩ (s4 _ _ (s3 _ _ (sm2 _ _ h1)))
def nT (K:PySem.W.Frag):Sp:=fun vs H Q _ => ∃ (p:Addr) (ns:List Int),vs=[.ref p]∧SqL K H p (ns.map V.int)∧ns.length≤4096∧aU ns∧Tree ns ∧ ∀ H',aR H H'→Q .non H'
theorem gZ (T:Tx K mg a):aX P w K mg base CX0 2 a.f_check_brackets a.fd_check_brackets ["bits"] (nT K):=by
 refine T.D_check_brackets.F.ok nZ (fun vs H Q E h=>?_) (fun cdv A outer s H vs Q E hr h=>?_)
 ·obtain ⟨p,ns,rfl,_⟩:=h
  rfl
 obtain ⟨p,ns,rfl,hS,hl,hb,ht,q⟩:=h
 refine ⟨_,(aj (bc (aD T.D_check_row (m6 T) (by decide) hr aH rfl (aa (pv 0) ao)))
  (aq (aW (j6 (rJ (aD T.D_is_tree (Al T) (by decide) hr aH rfl (aa (pv 0) ao)))) (aq bU) aL))),?_⟩
 refine ⟨_,rfl,p,ns,rfl,hS,hl,hb,?_⟩
 refine ⟨_,rfl,p,ns,rfl,hS,fun b H' hbt sm=>?_⟩
 have:b=true:=hbt.mpr ht
 subst this
 exact ⟨true,rfl,cW (q H' sm)⟩
def Aq:Sp:=fun vs H Q _ => ∃ (t ah:Addr) (ns:List Int) (rest:List V) (j:Nat),vs=[.ref t,.int (j:Int)]∧Tab H t ah ns rest∧j≤many ns.length∧Q (.int (ht ns (32 * j))) H
theorem jt (T:Tx K mg a):aX P w K mg base CX0 1 a.f_base_of a.fd_base_of ["tables", "number"] Aq:=by
 refine T.D_base_of.F.ok zq (fun vs H Q E h=>?_) (fun cdv A outer s H vs Q E hr h=>?_)
 ·obtain ⟨t,ah,ns,rest,j,rfl,_⟩:=h
  rfl
 obtain ⟨t,ah,ns,rest,j,rfl,hT,hj,q⟩:=h
 refine ⟨_,(aq (aB (aF bB (aF bR au (aZ bx (aZ bx (pv 0) au (fun _ _=>rfl)) (pv 1) (fun _ _=>rfl))) (aF bR (bh (v:=.int 32) rfl T.c_BLOCK_BITS ⟨_,rfl⟩) (pv 1))))),?_⟩
 refine ⟨_,rfl,t,_,_,_,rfl,rfl,SqT.of hT.tup,qX _ _ _ hT.few,_,rfl,ah,_,_,_,rfl,rfl,SqT.of hT.ahs,Fv hj,_,_,rfl,rfl,.inl ⟨by decide,by decide⟩,_,rfl,_,_,rfl,rfl,.inl ⟨by decide,by decide⟩,_,_,rfl,rfl,?_⟩
 unfold ht at q
 rw [show ((32 * j:Nat):Int)=32 * (j:Int) from by omega] at q
 exact q
def uI:Sp:=fun vs H Q _ => ∃ (j n:Nat),vs=[.int (j:Int),.int (n:Int)]∧32 * j≤n∧Q (.int (wide n j:Nat)) H
theorem fH (T:Tx K mg a):aX P w K mg base CX0 1 a.f_end_within a.fd_end_within ["number", "upto"] uI:=by
 refine T.D_end_within.F.ok uv (fun vs H Q E h=>?_) (fun cdv A outer s H vs Q E hr h=>?_)
 ·obtain ⟨j,n,rfl,_⟩:=h
  rfl
 obtain ⟨j,n,rfl,hj,q⟩:=h
 refine ⟨_,(aq (aB (aY (pP rfl) rfl T.b_min Tw.mZ (aa (aF bB (pv 1) (aF bR (bh (v:=.int 32) rfl T.c_BLOCK_BITS ⟨_,rfl⟩) (pv 0))) (aa (bh (v:=.int 32) rfl T.c_BLOCK_BITS ⟨_,rfl⟩) ao))))),?_⟩
 refine ⟨_,rfl,_,rfl,_,_,rfl,rfl,.inl ⟨by decide,by decide⟩,_,_,rfl,rfl,_,_,rfl,?_⟩
 have e:(if (32:Int) < (n:Int) - 32 * (j:Int) then (32:Int) else (n:Int) - 32 * (j:Int))=((wide n j:Nat):Int):=by
  unfold wide
  split <;> omega
 rw [← e] at q
 exact q
def DG:Sp:=fun vs H Q _ => ∃ (t ah:Addr) (ns:List Int) (rest:List V) (j:Nat),vs=[.ref t,.int (j:Int),.int (bK ns j)]∧Tab H t ah ns rest∧aU ns∧32 * j < ns.length ∧ ∀ m H',m7 ns j m→aR H H'→Q (.int m) H'
theorem Di (T:Tx K mg a):aX P w K mg base CX0 5 a.f_low_of a.fd_low_of ["tables", "number", "block"] DG:=by
 refine T.D_low_of.F.ok Ck (fun vs H Q E h=>?_) (fun cdv A outer s H vs Q E hr h=>?_)
 ·obtain ⟨t,ah,ns,rest,j,rfl,_⟩:=h
  rfl
 obtain ⟨t,ah,ns,rest,j,rfl,hT,hb,hj,q⟩:=h
 refine ⟨_,(aq (aB (aF bj (aD T.D_base_of (jt T) (by decide) hr aH rfl (aa (pv 0) (aa (pv 1) ao))) (aD T.D_low_in (Dc T) (by decide) hr aH rfl (aa (pv 2) (aa (aD T.D_end_within (fH T) (by decide) hr aH rfl (aa (pv 1) (aa (aZ bx (pv 0) au (fun _ _=>rfl)) ao))) ao)))))),?_⟩
 have hm:j≤many ns.length:=by
  unfold many
  omega
 have hw:1≤wide ns.length j∧wide ns.length j≤32:=by
  unfold wide
  omega
 refine ⟨_,rfl,_,rfl,t,ah,ns,rest,j,rfl,hT,hm,?_⟩
 refine ⟨_,rfl,_,rfl,_,rfl,t,_,_,_,rfl,rfl,SqT.of hT.tup,lJ _ _ _ hT.few,j,ns.length,rfl,by omega,?_⟩
 refine ⟨bK ns j,((wide ns.length j:Nat):Int),rfl,by omega,by omega,fun M H' hM sm=>⟨_,_,rfl,rfl,?_⟩⟩
 rw [Int.toNat_natCast] at hM
 exact q _ H' (m7.of hb hM.1 hM.2) sm
structure KB (H:Hp) (t ah nd bl:Addr) (ns lows:List Int) (S:Nat) (xs:List V):Prop where
 tab:Tab H t ah ns [.ref nd]
 nds:H nd=some (.tup xs)
 bls:H bl=some (.lst ((cJ ns).map V.int))
 low:lL ns lows
 sz:ir lows.length S
 heap:fU lows S 1 xs
def pH (K:PySem.W.Frag):Sp:=fun vs H Q _ => ∃ (p:Addr) (ns:List Int),vs=[.ref p]∧SqL K H p (ns.map V.int)∧ns.length≤4096∧aU ns∧Tree ns ∧
 ∀ r t ah nd bl lows S xs H',H bl=none→H r=none→H t=none→aR H H'→H' r=some (.tup [.ref t,.ref bl])→KB H' t ah nd bl ns lows S xs→Q (.ref r) H'
theorem pM (T:Tx K mg a):aX P w K mg base CX0 6 a.f_kept_brackets a.fd_kept_brackets ["bits"] (pH K):=by
 refine T.D_kept_brackets.F.ok cL (fun vs H Q E h=>?_) (fun cdv A outer s H vs Q E hr h=>?_)
 ·obtain ⟨p,ns,rfl,_⟩:=h
  rfl
 obtain ⟨p,ns,rfl,hS,hl,hb,ht,q⟩:=h
 refine ⟨_,(aj (bc (aD T.D_check_brackets (gZ T) (by decide) hr aH rfl (aa (pv 0) ao)))
  (aj (aG (i:=1) cL.nd rfl (Or.inl rfl) (aD T.D_kept_row (xG T) (by decide) hr aH rfl (aa (pv 0) ao)))
  (aj (aG (i:=2) cL.nd rfl (Or.inr rfl) (aZ bx (pv 1) au (fun _ _=>rfl)))
  (aj (aG (i:=3) cL.nd rfl (Or.inl rfl) (aZ bx (pv 1) au (fun _ _=>rfl)))
  (aj (xT (i:=4) cL.nd rfl rfl rfl ⟨(fj.one (j:=2) rfl (Or.inl rfl) rfl rfl (Or.inl rfl)),rfl,by decide⟩ (wk rfl T.b_enumerate (aa (pv 3) ao)) (fun _ _ _ _=>(aD T.D_low_of (Di T) (by decide) hr aH rfl (aa (pv 2) (aa (pv 0) (aa (pv 1) ao))))))
  (aq (aB (mK (aa (mK (aa (aZ bx (pv 2) au (fun _ _=>rfl)) (aa (aZ bx (pv 2) au (fun _ _=>rfl)) (aa (dB lW rfl T.b_tuple Tw.yr (aa (aD T.D_heap_of (zA T) (by decide) hr aH rfl (aa (pv 4) ao)) ao)) ao)))) (aa (pv 3) ao)))))))))),?_⟩
 refine ⟨_,rfl,p,ns,rfl,hS,hl,hb,ht,fun H1 s1=>?_⟩
 refine ⟨_,rfl,p,ns,rfl,s1.seq hS,hl,hb,fun r b t ah H2 hb0 s2 xr hT xb=>?_⟩
 refine ⟨_,rfl,r,_,_,_,rfl,rfl,SqT.of xr,rfl,?_⟩
 refine ⟨_,rfl,r,_,_,_,rfl,rfl,SqT.of xr,rfl,?_⟩
 have hpl:=bA ns
 have hml:many ns.length≤128:=by
  unfold many
  omega
 refine ⟨_,rfl,b,_,rfl,SqL.of xb,?_⟩
 refine zX (m7 ns) (SqL.of xb) (by rw [hpl,sizeLine_eq]; omega) (fun i c H' Q hc sm qq=>?_) fun D H3 ls hD s3 xD hlen hR=>?_
 ·have hi:=(List.getElem?_eq_some_iff.mp hc).1
  rw [hpl] at hi
  rw [gn hi] at hc
  cases hc
  refine ⟨_,rfl,_,rfl,_,rfl,t,ah,ns,[],i,rfl,hT.same sm,hb,?_,qq⟩
  unfold many at hi
  omega
 have hLo:lL ns ls:=⟨by rw [hlen,hpl],hR⟩
 refine ⟨_,rfl,t,_,_,_,rfl,rfl,SqT.of (s3 _ _ hT.tup),rfl,?_⟩
 refine ⟨_,rfl,t,_,_,_,rfl,rfl,SqT.of (s3 _ _ hT.tup),rfl,?_⟩
 refine ⟨_,rfl,D,ls,rfl,SqL.of xD,by omega,fun S r4 H4 xs hSz hr4 s4 x4 hv=>?_⟩
 refine ⟨r4,_,rfl,.inl ⟨SqL.of x4,fun nd hnd=>?_⟩⟩
 have s5:=aA hnd (.tup xs)
 refine ⟨(by show 3≤sizeLine; decide),fun t6 ht6=>?_⟩
 have s6:=aA ht6 (.tup [.int (ns.length:Int),.ref ah,.ref nd])
 refine ⟨_,rfl,(by show 2≤sizeLine; decide),fun r7 hr7=>?_⟩
 have s7:=aA hr7 (.tup [.ref t6,.ref b])
 have sA:=s3.trans (s4.trans (s5.trans (s6.trans s7)))
 refine q r7 t6 ah nd b ls S xs _ (s1.free hb0) ((s1.trans (s2.trans (s3.trans (s4.trans (s5.trans s6))))).free hr7) ((s1.trans (s2.trans (s3.trans (s4.trans s5)))).free ht6) (s1.trans (s2.trans sA)) az ⟨⟨s7 _ _ az,sA _ _ hT.ahs,Nat.le_refl _⟩,s7 _ _ (s6 _ _ az),sA _ _ xb,hLo,hSz,hv⟩
def qQ:Sp:=fun vs H Q _ => ∃ (p:Addr) (ds:List Int),vs=[.ref p]∧H p=some (.lst (ds.map V.int))∧bC ds∧ds.length≤2048 ∧ ∀ H',aR H H'→Q .non H'
theorem qR (T:Tx K mg a):aX P w K mg base CX0 1 a.f_check_depths a.fd_check_depths ["depths"] qQ:=by
 refine T.D_check_depths.F.ok fW (fun vs H Q E h=>?_) (fun cdv A outer s H vs Q E hr h=>?_)
 ·obtain ⟨p,ds,rfl,_⟩:=h
  rfl
 obtain ⟨p,ds,rfl,hp,hg,hl,q⟩:=h
 refine ⟨_,(aj (aW (aK dF (aY aQ rfl T.b_len Tw.bW (aa (pv 0) ao)) (bh (v:=.int 2048) rfl T.c_MOST_NODES ⟨_,rfl⟩) (aM _)) (aq bU) aL)
  (aj (aW (PW.pt (oH (aK bJ (aY aQ rfl T.b_len Tw.bW (aa (pv 0) ao)) au (aM _)) (jX (aK yS (aZ bD (pv 0) au (fun _ _=>rfl)) au (aM _))))) (aq bU) aL)
  (aq (bV PassesOwn.never rfl (Ib rfl T.b_zip Tw.HN (aa (pv 0) (aa (eF gU (pv 0) (dI au) lD) ao))) (ik rfl (bw (aV (i:=1) fW.nd rfl (Or.inl rfl)) (bw (aV (i:=2) fW.nd rfl (Or.inl rfl)) fG))) (aq (aW (j6 (t8 dU dU au (pv 2) (aF bj (pv 1) au))) (aq bU) aL)))))),?_⟩
 have ern:(ds.map V.int).length=ds.length:=List.length_map ..
 have h0:0 < ds.length:=(List.getElem?_eq_some_iff.mp hg.1).1
 refine ⟨_,rfl,p,_,rfl,.inl (SqL.of hp),_,_,rfl,rfl,_,rfl,aO (fun c=>?_) fun c=>?_⟩
 ·have c:(2048:Int) < ((ds.map V.int).length:Int):=of_decide_eq_true c
  rw [ern] at c
  omega
 refine ⟨_,rfl,p,_,rfl,.inl (SqL.of hp),rfl,_,rfl,aO (fun c=>?_) fun c=>?_⟩
 ·have c:V.int ((ds.map V.int).length:Int)=V.int 0:=of_decide_eq_true c
  injection c with c
  rw [ern] at c
  omega
 refine ⟨_,rfl,p,_,_,_,rfl,rfl,SqL.of hp,ig (i:=0) hg.1,rfl,_,rfl,uZ rfl ?_⟩
 refine ⟨_,rfl,_,rfl,_,rfl,p,_,rfl,SqL.of hp,fun c hc=>?_⟩
 have s1:=aA hc (.lst (gM (ds.map V.int) (some 1) none))
 have ec:gM (ds.map V.int) (some 1) none=(ds.drop 1).map V.int:=zb ds 1
 have xc:upd H c (.lst (gM (ds.map V.int) (some 1) none)) c=some (.lst ((ds.drop 1).map V.int)):=by rw [az,ec]
 generalize upd H c (.lst (gM (ds.map V.int) (some 1) none))=H1 at *
 refine ⟨p,c,_,_,rfl,SqL.of (s1 _ _ hp),SqL.of xc,?_⟩
 refine G4 (xs:=ds.map V.int) (ys:=(ds.drop 1).map V.int) (fun i σ H'=>(∃ k1 k2,σ=[some (.ref p),k1,k2])∧aR H1 H') ⟨⟨none,none,rfl⟩,aR.refl _⟩ ?_ ?_ ?_
 ·rintro i σ H' _ ⟨_,sm⟩
  exact ⟨SqL.of (sm _ _ (s1 _ _ hp)),SqL.of (sm _ _ xc)⟩
 ·rintro i x y σ H' t hx hy ⟨⟨k1,k2,rfl⟩,sm⟩ ht
  obtain ⟨u,hu,rfl⟩:=int_at hx
  obtain ⟨v,hv,rfl⟩:=int_at hy
  rw [List.getElem?_drop,Nat.add_comm] at hv
  have hh:=hg.2 i u v hu hv
  have s2:=aA ht (.tup [.int u,.int v])
  refine ⟨t,_,rfl,SqT.of az,rfl,_,_,rfl,_,_,rfl,rfl,?_⟩
  exact ⟨_,rfl,_,_,rfl,rfl,_,rfl,aO (fun _=>⟨_,rfl,_,_,rfl,rfl,_,_,rfl,rfl,_,rfl,uZ hh.2 ⟨⟨_,_,rfl⟩,sm.trans s2⟩⟩) fun z=>absurd (decide_eq_true hh.1) z⟩
 ·rintro σ H' ⟨_,sm⟩
  exact q H' (s1.trans sm)
def tE:Sp:=fun vs H Q _ => ∃ (p:Addr) (ds:List Int),vs=[.ref p]∧H p=some (.lst (ds.map V.int))∧bC ds∧ds.length≤2048 ∧ ∀ r H',H r=none→aR H H'→H' r=some (.lst ((brk ds 0).map V.int))→Q (.ref r) H'
theorem rZ (T:Tx K mg a):aX P w K mg base CX0 2 a.f_brackets_of a.fd_brackets_of ["depths"] tE:=by
 refine T.D_brackets_of.F.ok cY (fun vs H Q E h=>?_) (fun cdv A outer s H vs Q E hr h=>?_)
 ·obtain ⟨p,ds,rfl,_⟩:=h
  rfl
 obtain ⟨p,ds,rfl,hp,hg,hl,q⟩:=h
 refine ⟨_,(aj (bc (aD T.D_check_depths (qR T) (by decide) hr aH rfl (aa (pv 0) ao)))
  (aj (aG (i:=1) cY.nd rfl (Or.inl rfl) (bT ao))
  (aj (aG (i:=2) cY.nd rfl (Or.inl rfl) au)
  (aj (bV PassesOwn.never rfl (dw (pv 0)) (aV (i:=3) cY.nd rfl (Or.inl rfl)) (aj (bc (eY PySem.F.plainAttrs_list PySem.F.slot_list_extend PySem.F.type_list_extend pU (pv 1) (aa (aF ug (bT (aa au ao)) (aF bB (pv 2) (pv 3))) ao)))
  (aj (bc (eY PySem.F.plainAttrs_list PySem.F.slot_list_append PySem.F.type_list_append bH (pv 1) (aa au ao)))
  (aq (aG (i:=2) cY.nd rfl (Or.inl rfl) (aF bj (pv 3) au))))))
  (aq (aB (aF iD (pv 1) (aF ug (bT (aa au ao)) (pv 2))))))))),?_⟩
 have hbl:=jk hg.dp
 refine ⟨_,rfl,p,ds,rfl,hp,hg,hl,fun H1 s1=>?_⟩
 refine ⟨(by show 0≤sizeLine; decide),fun b hb=>?_⟩
 have s2:=s1.trans (aA hb (.lst []))
 have xb:upd H1 b (.lst []) b=some (.lst (([]:List Int).map V.int)):=az
 have hbH:H b=none:=s1.free hb
 generalize upd H1 b (.lst [])=H2 at *
 refine ⟨_,rfl,p,rfl,⟨_,SqL.of (s2 _ _ hp)⟩,?_⟩
 refine cO (xs:=ds.map V.int) (fun i σ H'=>(∃ (u:Int) (k3:Option V) (bs:List Int),σ=[some (.ref p),some (.ref b),some (.int u),k3]∧H' b=some (.lst (bs.map V.int))∧bs ++ brk (ds.drop i) u=brk ds 0∧Dp (ds.drop i) u)∧aR H H') ⟨⟨0,none,[],rfl,xb,rfl,hg.dp⟩,s2⟩ ?_ ?_ ?_
 ·rintro i σ H' _ ⟨_,sm⟩
  exact SqL.of (sm _ _ hp)
 ·rintro i x σ H' hx ⟨⟨u,k3,bs,rfl,xb',eb,hd⟩,sm⟩
  obtain ⟨d,hdi,rfl⟩:=int_at hx
  have hi:=(List.getElem?_eq_some_iff.mp hdi).1
  have edr:ds.drop i=d :: ds.drop (i + 1):=by
   rw [List.drop_eq_getElem_cons hi]
   congr 1
   exact (List.getElem?_eq_some_iff.mp hdi).2
  rw [edr] at eb hd
  obtain ⟨d0,du,hd'⟩:=hd
  have hlen:=congrArg List.length eb
  simp only [brk,List.length_append,List.length_replicate,List.length_cons] at hlen
  rw [hbl] at hlen
  have hu:u - d≤4096:=by omega
  have ub:bs.length≤4096:=by omega
  refine ⟨_,rfl,.inl ⟨rfl,_,SqL.of xb'⟩,?_⟩
  refine ⟨(by show 1≤sizeLine; decide),fun l1 h1=>⟨_,rfl,_,rfl,_,_,rfl,rfl,l1,u - d,[.int 0],rfl,rfl,az,by omega,by omega,?_,fun r1 hr1=>?_⟩⟩
  ·rw [sizeLine_eq]
   show 1 * _≤_
   omega
  have s3:=(aA h1 (.lst [.int 0])).trans (aA hr1 (.lst (List.replicate (u - d).toNat [.int 0]).flatten))
  have x3:upd (upd H' l1 (.lst [.int 0])) r1 (.lst (List.replicate (u - d).toNat [.int 0]).flatten) r1=some (.lst ((List.replicate (u - d).toNat (0:Int)).map V.int)):=by
   rw [az,wJ]
  have xb3:=s3 _ _ xb'
  have sm3:=sm.trans s3
  generalize upd (upd H' l1 (.lst [.int 0])) r1 (.lst (List.replicate (u - d).toNat [.int 0]).flatten)=H3 at *
  refine ⟨b,r1,_,_,rfl,rfl,xb3,x3,?_,?_⟩
  ·rw [List.length_map,List.length_map,List.length_replicate,sizeLine_eq]
   omega
  have x4:upd H3 b (.lst (bs.map V.int ++ (List.replicate (u - d).toNat (0:Int)).map V.int)) b=some (.lst ((bs ++ List.replicate (u - d).toNat 0).map V.int)):=by
   rw [az,List.map_append]
  have sm4:=bG sm3 hbH (.lst (bs.map V.int ++ (List.replicate (u - d).toNat (0:Int)).map V.int))
  generalize upd H3 b (.lst (bs.map V.int ++ (List.replicate (u - d).toNat (0:Int)).map V.int))=H4 at *
  refine ⟨_,rfl,.inl ⟨rfl,_,SqL.of x4⟩,b,_,_,rfl,rfl,x4,?_,?_⟩
  ·rw [List.length_map,List.length_append,List.length_replicate,sizeLine_eq]
   omega
  refine ⟨_,rfl,_,_,rfl,rfl,⟨d + 1,_,bs ++ List.replicate (u - d).toNat 0 ++ [1],rfl,?_,?_,hd'⟩,bG sm4 hbH _⟩
  ·rw [az,List.map_append (l₂:=[1])]
   rfl
  ·rw [← eb]
   simp [brk]
 ·rintro σ H' ⟨⟨u,k3,bs,rfl,xb',eb,hd⟩,sm⟩
  rw [List.length_map,List.drop_length] at eb hd
  have hu:0≤u:=hd
  have hlen:=congrArg List.length eb
  simp only [brk,List.length_append,List.length_replicate] at hlen
  rw [hbl] at hlen
  refine ⟨_,rfl,?_⟩
  refine Bt (i:=2) (k:=u) (xs:=[.int 0]) (fun Q' q=>q) rfl (by omega) (by decide) (by omega) fun p1 H4 hp1 s4 x4=>?_
  rw [wJ] at x4
  refine ⟨b,p1,_,_,rfl,rfl,s4 _ _ xb',x4,?_,fun p2 hp2=>?_⟩
  ·rw [List.length_map,List.length_map,List.length_replicate,sizeLine_eq]
   omega
  refine q p2 _ ((sm.trans s4).free hp2) (sm.trans (s4.trans (aA hp2 _))) ?_
  rw [az,← List.map_append]
  exact congrArg (fun l:List Int=>some (HO.lst (l.map V.int))) eb
def uh:Sp:=fun vs H Q E => ∃ at0 most:Int,vs=[.int at0,.int most]∧0≤at0∧at0≤most∧Q .non H
theorem eX (T:Tx K mg a):aX P w K mg base CX0 1 a.f_check_place a.fd_check_place ["at", "most"] uh:=by
 refine T.D_check_place.F.ok t7 (fun vs H Q E h=>?_) (fun cdv A outer s H vs Q E hr h=>?_)
 ·obtain ⟨p,m,rfl,_⟩:=h
  rfl
 obtain ⟨at0,most,rfl,h0,h1,q⟩:=h
 refine ⟨_,(aq (aW (PW.pt (oH (aK ji (pv 0) au (aM _)) (jX (aK dF (pv 0) (pv 1) (aM _))))) (aq bU) aL)),?_⟩
 refine ⟨_,rfl,_,_,rfl,rfl,_,rfl,aO (fun c=>?_) fun c=>?_⟩
 ·have c:=of_decide_eq_true c
  omega
 refine ⟨_,rfl,_,rfl,_,_,rfl,rfl,_,rfl,aO (fun c2=>?_) fun c2=>?_⟩
 ·have c2:=of_decide_eq_true c2
  omega
 exact q
def Eg:Addr→Sp:=fun f vs H Q _ => ∃ (bl:Addr) (xs:List V) (n:Nat) (x:V) (cs:List Addr),vs=[.int (n:Int)]∧cN H f dD cs [.ref bl]∧H bl=some (.lst xs)∧xs[n]?=some x∧Q x H
theorem Gr (_:Tx K mg a):nA P w K mg base 1 Eg:=by
 refine Em Gy (fun _ _ _ _ _ us hl=>match us,hl with | [_],_=>rfl) fun f vs H Q h=>?_
 obtain ⟨bl,xs,n,x,cs,rfl,ca,hb,hat,q⟩:=h
 refine ⟨rfl,cs,[.ref bl],ca,fun cd A outer s hr=>⟨_,(aq (aB (aZ bD (pv 1) (pv 0) (fun _ _=>rfl)))),?_⟩⟩
 refine ⟨_,rfl,_,rfl,bl,_,_,_,rfl,rfl,SqL.of (by rw [bF (cN.out ca hb)]; exact hb),lN hat,?_⟩
 show Q x (over H cs (hide H cs))
 rw [pA]
 exact q
theorem dR (T:Tx K mg a):nA P w K mg base 2 GX:=by
 refine Em xV (fun _ _ _ _ _ us hl=>match us,hl with | [_],_=>rfl) fun f vs H Q h=>?_
 obtain ⟨L,ss,n,x,rfl,rfl,hA,hls,hat,q⟩:=h
 obtain ⟨h0,sn,g,cs,cs',hw,nsb,ca,cg⟩:=hA.look
 have hsn:=(hA.seen sn hw).1
 have o1:=cN.out ca hsn
 have o2:=cN.out ca hA.nodes
 rw [h0,Nat.zero_add] at hat
 have hn:=(List.getElem?_eq_some_iff.mp hat).1
 refine ⟨rfl,cs,[.int (L.all.length:Int),.ref sn,.ref g],ca,fun cd A outer s hr=>⟨_,(aj (bc (eY PySem.F.plainAttrs_list PySem.F.slot_list_append PySem.F.type_list_append bH (pv 2) (aa (pv 0) ao)))
  (aj (aW (PW.pt (ju (rJ (aD T.D_law_whole (jK T) (by decide) hr aH rfl (aa (pv 0) ao))) (gY (t8 dU ji au (pv 0) (pv 1))))) (aq (aB (dg ((Gr T).mono (by decide)) hr (i:=3) rfl (aa (pv 0) ao)))) aL)
  (aq (aB au)))),?_⟩⟩
 have g1:hide H cs sn=some (.lst (ss.map V.int)):=by rw [bF o1]; exact hsn
 refine ⟨_,rfl,.inl ⟨rfl,_,SqL.of g1⟩,_,rfl,sn,_,_,rfl,rfl,g1,?_,?_⟩
 ·rw [List.length_map,sizeLine_eq]
  omega
 have g2:upd (hide H cs) sn (.lst (ss.map V.int ++ [.int (n:Int)])) L.bl=some (.lst L.all):=by rw [aJ nsb.symm,bF o2]; exact hA.nodes
 have cg2:cN (upd (hide H cs) sn (.lst (ss.map V.int ++ [.int (n:Int)]))) g dD cs' [.ref L.bl]:=cg.same fun b o e=>by
  rw [aJ (fun z=>by rw [z,g1] at e; cases e)]
  exact e
 obtain ⟨o,fd,e1,e2⟩ : ∃ o fd,upd (hide H cs) sn (.lst (ss.map V.int ++ [.int (n:Int)])) g=some (aP g o)∧o.data=.func fd:=by
  obtain ⟨cd,doc,pm,ctv,oc,vs,t,h1,_⟩:=cg2.ex
  exact ⟨_,_,h1,rfl⟩
 refine ⟨_,rfl,(n:Int),rfl,true,rfl,fK ?_⟩
 refine ⟨_,rfl,_,_,rfl,rfl,_,rfl,aO (fun _=>?_) fun z=>absurd (decide_eq_true (show (0:Int)≤(n:Int) by omega)) z⟩
 refine ⟨_,rfl,_,_,rfl,rfl,_,rfl,aO (fun _=>?_) fun z=>absurd (decide_eq_true (show (n:Int) < (L.all.length:Int) by omega)) z⟩
 refine ⟨g,o,fd,rfl,e1,e2,_,rfl,e1,L.bl,L.all,n,x,cs',rfl,cg2,g2,hat,?_⟩
 show Q x (over H cs (upd (hide H cs) sn (.lst (ss.map V.int ++ [.int (n:Int)]))))
 rw [Fp o1,pA]
 rw [LK.put_some hw,h0,Nat.zero_add,List.map_append] at q
 exact q
def sr (Pt:Addr):Sp:=fun vs H Q _ => ∃ (g sn bl:Addr) (xs:List V) (cs':List Addr),vs=[.ref g,.int (xs.length:Int),.ref sn]∧cN H g dD cs' [.ref bl]∧H bl=some (.lst xs)∧H sn=some (.lst [])∧sn ≠ bl∧TabAt H Pt (jT cH) cT.qual ∧
 ∀ f H2,H f=none→vC Pt H H2→TabAt H2 Pt (jT cH) cT.qual→Asks H2 ⟨f,some sn,bl,0,xs⟩ []→Q (.ref f) H2
theorem ud (T:Tx K mg a) (B:Bs mg base a):aX P w K mg base CX0 1 a.f_law_watched a.fd_law_watched ["_law_look", "_law_size", "_law_seen"] (sr a.tP_law_watched):=by
 refine Fun.maker0 (T:=cT) (pos:=jT cH) T.D_law_watched.F j7 sE B.bm T.w_law_watched B.C_law_watched (fun vs H Q E h=>?_) rfl (fun vs H Q E h=>?_)
 ·obtain ⟨g,sn,bl,xs,cs',rfl,_⟩:=h
  rfl
 obtain ⟨g,sn,bl,xs,cs',rfl,cg,hb,hs,nsb,hT,q⟩:=h
 refine ⟨hT,[.int (xs.length:Int),.ref sn,.ref g],fun j m e=>?_,rfl,fun fi cs H2 n1 n2 n3 n4 n5=>q fi H2 n1 n3 n4 ⟨⟨rfl,sn,g,cs,cs',rfl,nsb,n5,cg.same fun b o e=>?_⟩,fun sn' z=>?_,n3 _ _ hb (TabAt.ne hT hb nofun),by simp⟩⟩
 ·match j,e with
  | 0,e=>cases e; exact ⟨_,rfl,rfl⟩
  | 1,e=>cases e; exact ⟨_,rfl,rfl⟩
  | 2,e=>cases e; exact ⟨_,rfl,rfl⟩
  | j + 3,e=>simp at e
 ·rw [bF (fun z=>by have:=n2 _ z; rw [e] at this; cases this)]
  exact n3 _ _ e (TabAt.ne hT e nofun)
 ·cases z
  exact ⟨n3 _ _ hs (TabAt.ne hT hs nofun),nsb⟩
def zP (K:PySem.W.Frag) (Pt:Addr):Sp:=fun vs H Q _ => ∃ (p:Addr) (xs:List V),vs=[.ref p]∧SqL K H p xs∧TabAt H Pt (jT fu) dD.qual ∧
 ∀ f r H2 cs,H f=none→H r=none→vC Pt H H2→TabAt H2 Pt (jT fu) dD.qual→cN H2 f dD cs [.ref r]→H2 r=some (.lst xs)→Q (.ref f) H2
theorem zm (T:Tx K mg a) (B:Bs mg base a):aX P w K mg base CX0 1 a.f_look_of a.fd_look_of ["blocks"] (zP K a.tP_look_of):=by
 refine Fun.maker1 (T:=dD) (pos:=jT fu) T.D_look_of.F mQ z9 B.bm T.w_look_of B.C_look_of (fun vs H Q E h=>?_) rfl (fun cdv A outer s H vs Q E hr h=>?_)
 ·obtain ⟨p,xs,rfl,_⟩:=h
  rfl
 obtain ⟨p,xs,rfl,hS,hT,q⟩:=h
 refine ⟨_,(aG (i:=1) mQ.nd rfl (Or.inr rfl) (dB jr rfl T.b_list Tw.rz (aa (pv 0) ao))),?_⟩
 refine ⟨_,rfl,p,_,rfl,.inl hS,fun r hr'=>?_⟩
 have sm:=aA hr' (.lst xs)
 have nP:r ≠ a.tP_look_of:=fun z=>by
  obtain ⟨ps,h1,_⟩:=hT
  rw [← z,hr'] at h1
  cases h1
 refine ⟨TabAt.same hT sm,[.ref r],fun j m e=>?_,rfl,fun fi cs H2 n1 n2 n3 n4 n5=>q fi r H2 cs (sm.free n1) hr' (fun b o e n=>n3 b o (sm _ _ e) n) n4 n5 (n3 _ _ az nP)⟩
 match j,e with
 | 0,e=>cases e; exact ⟨_,rfl,rfl⟩
 | j + 1,e=>simp at e
structure Ask (H:Hp) (t:Addr) (L:LK) (ah:Addr) (ns ss:List Int) (rest:List V):Prop where
 tab:Tab H t ah ns rest
 asks:Asks H L ss
 bits:aU ns
 len:ns.length≤4096
 blk : ∀ n,n < many ns.length→L.all[L.off + n]?=some (.int (bK ns n))
theorem Ask.same {H H':Hp} {t:Addr} {L:LK} {ah:Addr} {ns ss:List Int} {rest:List V} (h:Ask H t L ah ns ss rest) (s:aR H H'):Ask H' t L ah ns ss rest:=⟨h.tab.same s,h.asks.same s,h.bits,h.len,h.blk⟩
theorem Ask.more {H:Hp} {t:Addr} {L:LK} {ah:Addr} {ns ss tt:List Int} {rest:List V} (h:Ask H t L ah ns ss rest) (hl:tt.length≤1000):Ask (L.put H tt) t L ah ns tt rest :=
 ⟨⟨h.asks.putT h.tab.tup,h.asks.putT h.tab.ahs,h.tab.few⟩,h.asks.more hl,h.bits,h.len,h.blk⟩
def cI (n k:Nat) (ss ss':List Int):Prop := ∃ tt:List Int,ss'=ss ++ tt∧tt.length≤k ∧ ∀ x∈tt,0≤x∧x < n
theorem cI.none {n k:Nat} (ss:List Int):cI n k ss ss:=⟨[],by simp,by simp,nofun⟩
theorem cI.one {n:Nat} (ss:List Int) {i:Int} (h0:0≤i) (h1:i < n):cI n 1 ss (ss ++ [i]):=⟨[i],rfl,by simp,fun x hx=>by rw [List.mem_singleton.mp hx]; exact ⟨h0,h1⟩⟩
theorem cI.trans {n j k:Nat} {a b c:List Int} (h:cI n j a b) (h':cI n k b c):cI n (j + k) a c:=by
 obtain ⟨t,rfl,l,m⟩:=h
 obtain ⟨u,rfl,l',m'⟩:=h'
 refine ⟨t ++ u,by rw [List.append_assoc],by rw [List.length_append]; omega,fun x hx=>?_⟩
 rcases List.mem_append.mp hx with hx | hx
 ·exact m x hx
 ·exact m' x hx
theorem cI.le {n j k:Nat} {a b:List Int} (h:cI n j a b) (hk:j≤k):cI n k a b:=by
 obtain ⟨t,e,l,m⟩:=h
 exact ⟨t,e,by omega,m⟩
theorem cI.len {n k:Nat} {a b:List Int} (h:cI n k a b):b.length≤a.length + k:=by
 obtain ⟨t,rfl,l,m⟩:=h
 rw [List.length_append]
 omega
theorem Ask.wr {H:Hp} {t:Addr} {L:LK} {ah:Addr} {ns ss:List Int} {rest:List V} (h:Ask H t L ah ns ss rest) {n:Nat} (hn:n < many ns.length):cI L.all.length 1 ss (ss ++ [((L.off + n:Nat):Int)]):=by
 have:=(List.getElem?_eq_some_iff.mp (h.blk n hn)).1
 exact cI.one ss (by omega) (by omega)
def zO:Sp:=fun vs H Q E => ∃ (t:Addr) (L:LK) (ah:Addr) (ns ss:List Int) (rest:List V) (at0:Nat),vs=[.ref t,.ref L.f,.int (at0:Int)]∧Ask H t L ah ns ss rest∧ss.length < 1000∧at0≤ns.length ∧
 ∀ ss' H',cI L.all.length 1 ss ss'→aR (L.put H ss') H'→Q (.int (ns.take at0).sum) H'
theorem mW (T:Tx K mg a):aX P w K mg base CX0 4 a.f_ones_at a.fd_ones_at ["tables", "look", "at"] zO:=by
 refine T.D_ones_at.F.ok gH (fun vs H Q E h=>?_) (fun cdv A outer s H vs Q E hr h=>?_)
 ·obtain ⟨t,L,ah,ns,ss,rest,at0,rfl,_⟩:=h
  rfl
 obtain ⟨t,L,ah,ns,ss,rest,at0,rfl,hA,hls,hat0,q⟩:=h
 refine ⟨_,(aj (aG (i:=3) gH.nd rfl (Or.inl rfl) (aZ bx (pv 0) au (fun _ _=>rfl)))
  (aj (aG (i:=4) gH.nd rfl (Or.inl rfl) (aZ bx (pv 0) au (fun _ _=>rfl)))
  (aj (bc (aD T.D_check_place (eX T) (by decide) hr aH rfl (aa (pv 2) (aa (pv 3) ao))))
  (aj (aG (i:=5) gH.nd rfl (Or.inl rfl) (aF cu (pv 2) (bh (v:=.int 32) rfl T.c_BLOCK_BITS ⟨_,rfl⟩)))
  (aj (aG (i:=6) gH.nd rfl (Or.inl rfl) (aF cR (pv 2) (bh (v:=.int 32) rfl T.c_BLOCK_BITS ⟨_,rfl⟩)))
  (aj (aW (aK bJ (pv 6) au (aM _)) (aq (aB (aZ bx (pv 4) (pv 5) (fun _ _=>rfl)))) aL)
  (aq (aB (aF bj (aZ bx (pv 4) (pv 5) (fun _ _=>rfl)) (aD T.D_ones_in (tR T) (by decide) hr aH rfl (aa (dg ((dR T).mono (by decide)) hr (i:=1) rfl (aa (pv 5) ao)) (aa (pv 6) ao)))))))))))),?_⟩
 refine ⟨_,rfl,t,_,_,_,rfl,rfl,SqT.of hA.tab.tup,lJ _ _ _ hA.tab.few,?_⟩
 refine ⟨_,rfl,t,_,_,_,rfl,rfl,SqT.of hA.tab.tup,qX _ _ _ hA.tab.few,?_⟩
 refine ⟨_,rfl,_,rfl,_,_,rfl,by omega,by omega,?_⟩
 refine ⟨_,rfl,_,_,rfl,rfl,⟨by decide,by decide⟩,?_⟩
 refine ⟨_,rfl,_,_,rfl,rfl,(by show (0:Int) < 32; decide),?_⟩
 have ej:(at0:Int) / 32=((at0 / 32:Nat):Int):=by omega
 have hat:atI ((ahd ns (many ns.length)).map V.int) ((at0:Int) / 32)=some (.int (ns.take (32 * (at0 / 32))).sum):=by
  rw [ej]
  exact Fv (by unfold many; omega)
 refine ⟨_,rfl,rfl,_,rfl,aO (fun c=>?_) fun c=>?_⟩
 ·have c:V.int ((at0:Int) % 32)=V.int 0:=of_decide_eq_true c
  injection c with c
  refine ⟨_,rfl,_,rfl,ah,_,_,_,rfl,rfl,SqT.of hA.tab.ahs,hat,?_⟩
  have:=q ss H (cI.none ss) (by rw [hA.asks.id]; exact aR.refl _)
  rw [show at0=32 * (at0 / 32) from by omega] at this
  exact this
 have c:(at0:Int) % 32 ≠ 0:=fun z=>c (decide_eq_true (congrArg V.int z))
 obtain ⟨o,fd,e1,g1⟩:=hA.asks.look.fn
 have hm:at0 / 32 < many ns.length:=by
  unfold many
  omega
 refine ⟨_,rfl,_,rfl,ah,_,_,_,rfl,rfl,SqT.of hA.tab.ahs,hat,L.f,o,fd,rfl,e1,g1,_,rfl,e1,L,ss,at0 / 32,_,rfl,congrArg (fun v=>[v]) (congrArg V.int ej),hA.asks,hls,hA.blk _ (by first | exact hm | omega),?_⟩
 refine ⟨_,rfl,_,_,rfl,(show 0≤(at0:Int) % 32 from by omega),(show (at0:Int) % 32≤32 from by omega),fun H' sm=>⟨_,_,rfl,rfl,?_⟩⟩
 have:=q _ H' (hA.wr hm) sm
 have e:(ns.take at0).sum=(ns.take (32 * (at0 / 32))).sum + ones (bK ns (at0 / 32)) ((at0:Int) % 32).toNat:=by
  rw [lE hA.bits _ _ (by omega)]
  congr 2
  omega
 rw [e] at this
 exact this
def Cg:Sp:=fun vs H Q E => ∃ (t:Addr) (L:LK) (ah:Addr) (ns ss:List Int) (rest:List V) (at0:Nat),vs=[.ref t,.ref L.f,.int (at0:Int)]∧Ask H t L ah ns ss rest∧ss.length < 1000∧at0≤ns.length ∧
 ∀ ss' H',cI L.all.length 1 ss ss'→aR (L.put H ss') H'→Q (.int (ht ns at0)) H'
theorem jh (T:Tx K mg a):aX P w K mg base CX0 5 a.f_height a.fd_height ["tables", "look", "at"] Cg:=by
 refine T.D_height.F.ok CJ (fun vs H Q E h=>?_) (fun cdv A outer s H vs Q E hr h=>?_)
 ·obtain ⟨t,L,ah,ns,ss,rest,at0,rfl,_⟩:=h
  rfl
 obtain ⟨t,L,ah,ns,ss,rest,at0,rfl,hA,hls,hat0,q⟩:=h
 refine ⟨_,(aq (aB (aF bB (aF bR au (aD T.D_ones_at (mW T) (by decide) hr aH rfl (aa (pv 0) (aa (pv 1) (aa (pv 2) ao))))) (pv 2)))),?_⟩
 exact ⟨_,rfl,_,rfl,_,rfl,t,L,ah,ns,ss,rest,at0,rfl,hA,hls,hat0,fun ss' H' w sm=>⟨_,_,rfl,rfl,.inl ⟨by decide,by decide⟩,_,rfl,_,_,rfl,rfl,q ss' H' w sm⟩⟩
def CZ:Sp:=fun vs H Q E => ∃ (t:Addr) (L:LK) (ah:Addr) (ns ss:List Int) (rest:List V) (at0:Nat) (b:Int),vs=[.ref t,.ref L.f,.int (at0:Int)]∧Ask H t L ah ns ss rest∧ss.length < 1000∧ns[at0]?=some b ∧
 ∀ ss' H',cI L.all.length 1 ss ss'→aR (L.put H ss') H'→Q (.int b) H'
theorem iU (T:Tx K mg a):aX P w K mg base CX0 3 a.f_bit_at a.fd_bit_at ["tables", "look", "at"] CZ:=by
 refine T.D_bit_at.F.ok Ci (fun vs H Q E h=>?_) (fun cdv A outer s H vs Q E hr h=>?_)
 ·obtain ⟨t,L,ah,ns,ss,rest,at0,b,rfl,_⟩:=h
  rfl
 obtain ⟨t,L,ah,ns,ss,rest,at0,b,rfl,hA,hls,hb,q⟩:=h
 have hat0:=(List.getElem?_eq_some_iff.mp hb).1
 refine ⟨_,(aj (bc (aD T.D_check_place (eX T) (by decide) hr aH rfl (aa (pv 2) (aa (aF bB (aZ bx (pv 0) au (fun _ _=>rfl)) au) ao))))
  (aq (aB (aD T.D_bit_in (vH T) (by decide) hr aH rfl (aa (dg ((dR T).mono (by decide)) hr (i:=1) rfl (aa (aF cu (pv 2) (bh (v:=.int 32) rfl T.c_BLOCK_BITS ⟨_,rfl⟩)) ao)) (aa (aF cR (pv 2) (bh (v:=.int 32) rfl T.c_BLOCK_BITS ⟨_,rfl⟩)) ao)))))),?_⟩
 refine ⟨_,rfl,_,rfl,t,_,_,_,rfl,rfl,SqT.of hA.tab.tup,lJ _ _ _ hA.tab.few,_,_,rfl,rfl,_,_,rfl,by omega,by omega,?_⟩
 obtain ⟨o,fd,e1,g1⟩:=hA.asks.look.fn
 have hm:at0 / 32 < many ns.length:=by
  unfold many
  omega
 have ej:(at0:Int) / 32=((at0 / 32:Nat):Int):=by omega
 refine ⟨L.f,o,fd,rfl,e1,g1,_,rfl,_,_,rfl,rfl,⟨by decide,by decide⟩,e1,L,ss,at0 / 32,_,rfl,congrArg (fun v=>[v]) (congrArg V.int ej),hA.asks,hls,hA.blk _ (by first | exact hm | omega),?_⟩
 refine ⟨_,rfl,_,_,rfl,rfl,(by show (0:Int) < 32; decide),_,_,rfl,(show 0≤(at0:Int) % 32 from by omega),?_⟩
 rw [show bit (bK ns (at0 / 32)) ((at0:Int) % 32).toNat=b from by rw [show ((at0:Int) % 32).toNat=at0 % 32 from by omega,bit_at hA.bits _ _ (by omega),show 32 * (at0 / 32) + at0 % 32=at0 from by omega,hb]; rfl]
 exact q _ _ (hA.wr hm) (aR.refl _)
def Hy (K:PySem.W.Frag):Sp:=fun vs H Q _ => ∃ (p:Addr) (ns:List Int) (goal:Int),vs=[.ref p,.int goal]∧SqT K H p (ns.map V.int)∧0 < ns.length∧ns.length≤4096 ∧
 ∀ lo:Nat,lo < ns.length→(lo=0 ∨ ∃ x,ns[lo]?=some x∧x≤goal)→(lo + 1=ns.length ∨ ∃ x,ns[lo + 1]?=some x∧goal < x)→Q (.int (lo:Int)) H
theorem mz (T:Tx K mg a):aX P w K mg base CX0 1 a.f_last_no_greater a.fd_last_no_greater ["numbers", "goal"] (Hy K):=by
 refine T.D_last_no_greater.F.ok bO (fun vs H Q E h=>?_) (fun cdv A outer s H vs Q E hr h=>?_)
 ·obtain ⟨p,ns,goal,rfl,_⟩:=h
  rfl
 obtain ⟨p,ns,goal,rfl,hS,h0,hl,q⟩:=h
 refine ⟨_,(aj (aG (i:=2) bO.nd rfl (Or.inl rfl) au)
  (aj (aG (i:=3) bO.nd rfl (Or.inl rfl) (aY aQ rfl T.b_len Tw.bW (aa (pv 0) ao)))
  (aj (gB PassesOwn.never (aK dF (aF bB (pv 3) (pv 2)) au (aM _)) (aj (aG (i:=4) bO.nd rfl (Or.inl rfl) (aF cu (aF bj (pv 2) (pv 3)) au))
  (aq (aW (aK dU (aZ bx (pv 0) (pv 4) (fun _ _=>rfl)) (pv 1) (aM _)) (aq (aG (i:=2) bO.nd rfl (Or.inl rfl) (pv 4))) (aq (aG (i:=3) bO.nd rfl (Or.inl rfl) (pv 4)))))))
  (aq (aB (pv 2)))))),?_⟩
 refine ⟨_,rfl,p,_,rfl,.inr hS,?_⟩
 refine ⟨fun m σ H' => ∃ (lo hi:Nat) (k:Option V),σ=[some (.ref p),some (.int goal),some (.int (lo:Int)),some (.int (hi:Int)),k]∧H'=H∧m=hi - lo∧lo < hi∧hi≤ns.length∧(lo=0 ∨ ∃ x,ns[lo]?=some x∧x≤goal)∧(hi=ns.length ∨ ∃ x,ns[hi]?=some x∧goal < x),⟨_,0,ns.length,none,?_,rfl,rfl,h0,Nat.le_refl _,.inl rfl,.inl rfl⟩,?_⟩
 ·rw [List.length_map]
  rfl
 rintro m σ H' ⟨lo,hi,k,rfl,rfl,rfl,hlt,hle,h1,h2⟩
 refine ⟨_,rfl,_,rfl,_,_,rfl,rfl,_,_,rfl,rfl,_,rfl,aO (fun c=>?_) fun c=>?_⟩
 ·have c:(1:Int) < (hi:Int) - (lo:Int):=of_decide_eq_true c
  refine ⟨_,fun σ' H2 z=>z,?_⟩
  have em:((lo:Int) + (hi:Int)) / 2=(((lo + hi) / 2:Nat):Int):=by omega
  have hm:(lo + hi) / 2 < ns.length:=by omega
  have hg:ns[(lo + hi) / 2]?=some ns[(lo + hi) / 2]:=List.getElem?_eq_getElem hm
  have hat:atI (ns.map V.int) (((lo:Int) + (hi:Int)) / 2)=some (.int ns[(lo + hi) / 2]):=by
   rw [em]
   exact ig hg
  refine ⟨_,rfl,_,rfl,_,_,rfl,rfl,_,_,rfl,rfl,⟨by decide,by decide⟩,?_⟩
  refine ⟨_,rfl,_,rfl,p,_,_,_,rfl,rfl,hS,hat,_,rfl,_,_,rfl,rfl,_,rfl,aO (fun d=>?_) fun d=>?_⟩
  ·have d:=of_decide_eq_true d
   refine ⟨_,rfl,hi - (lo + hi) / 2,by omega,(lo + hi) / 2,hi,some (.int (((lo:Int) + (hi:Int)) / 2)),?_,rfl,rfl,by omega,hle,.inr ⟨_,hg,d⟩,h2⟩
   rw [← em]
   rfl
  ·have d : ¬ ns[(lo + hi) / 2]≤goal:=fun z=>d (decide_eq_true z)
   refine ⟨_,rfl,(lo + hi) / 2 - lo,by omega,lo,(lo + hi) / 2,some (.int (((lo:Int) + (hi:Int)) / 2)),?_,rfl,rfl,by omega,by omega,h1,.inr ⟨_,hg,by omega⟩⟩
   rw [← em]
   rfl
 ·have c : ¬ (1:Int) < (hi:Int) - (lo:Int):=fun z=>c (decide_eq_true z)
  have e:hi=lo + 1:=by omega
  subst e
  exact ⟨_,rfl,q lo (by omega) h1 h2⟩
def vL:Sp:=fun vs H Q E => ∃ nth many:Int,vs=[.int nth,.int many]∧0≤nth∧nth < many∧Q .non H
theorem w5 (T:Tx K mg a):aX P w K mg base CX0 1 a.f_check_nth a.fd_check_nth ["nth", "many"] vL:=by
 refine T.D_check_nth.F.ok wg (fun vs H Q E h=>?_) (fun cdv A outer s H vs Q E hr h=>?_)
 ·obtain ⟨p,m,rfl,_⟩:=h
  rfl
 obtain ⟨nth,mny,rfl,h0,h1,q⟩:=h
 refine ⟨_,(aq (aW (PW.pt (oH (aK ji (pv 0) au (aM _)) (jX (aK xn (pv 0) (pv 1) (aM _))))) (aq bU) aL)),?_⟩
 refine ⟨_,rfl,_,_,rfl,rfl,_,rfl,aO (fun c=>?_) fun c=>?_⟩
 ·have c:=of_decide_eq_true c
  omega
 refine ⟨_,rfl,_,rfl,_,_,rfl,rfl,_,rfl,aO (fun c2=>?_) fun c2=>?_⟩
 ·have c2:=of_decide_eq_true c2
  omega
 exact q
def v6:Sp:=fun vs H Q E => ∃ (t:Addr) (L:LK) (ah:Addr) (ns ss:List Int) (rest:List V) (nth:Int),vs=[.ref t,.ref L.f,.int nth]∧Ask H t L ah ns ss rest∧ss.length < 1000∧0≤nth∧nth < ns.sum ∧ ∀ (H':Hp) (p:Nat) (ss':List Int),ns[p]?=some 1→(ns.take p).sum=nth→cI L.all.length 1 ss ss'→aR (L.put H ss') H'→Q (.int (p:Int)) H'
theorem vY (T:Tx K mg a):aX P w K mg base CX0 4 a.f_one_place a.fd_one_place ["tables", "look", "nth"] v6:=by
 refine T.D_one_place.F.ok jx (fun vs H Q E h=>?_) (fun cdv A outer s H vs Q E hr h=>?_)
 ·obtain ⟨t,L,ah,ns,ss,rest,nth,rfl,_⟩:=h
  rfl
 obtain ⟨t,L,ah,ns,ss,rest,nth,rfl,R,hls,p0,p1,q⟩:=h
 have ht:=R.tab.tup
 have hah:=R.tab.ahs
 have hb:=R.bits
 have hl:=R.len
 have hM:many ns.length≤128:=by
  unfold many
  omega
 have hall:ns.take (32 * many ns.length)=ns:=List.take_of_length_le (by unfold many; omega)
 have hla:atI ((ahd ns (many ns.length)).map V.int) (-1)=some (.int ns.sum):=by
  rw [FT,List.map_append,hall]
  exact nJ _ _
 refine ⟨_,(aj (aG (i:=3) jx.nd rfl (Or.inl rfl) (aZ bx (pv 0) au (fun _ _=>rfl)))
  (aj (bc (aD T.D_check_nth (w5 T) (by decide) hr aH rfl (aa (pv 2) (aa (aZ bx (pv 3) (vp oO au) (fun _ _=>rfl)) ao))))
  (aj (aG (i:=4) jx.nd rfl (Or.inl rfl) (aD T.D_last_no_greater (mz T) (by decide) hr aH rfl (aa (pv 3) (aa (pv 2) ao))))
  (aq (aB (aF bj (aF bR (bh (v:=.int 32) rfl T.c_BLOCK_BITS ⟨_,rfl⟩) (pv 4)) (aD T.D_one_in (Dh T) (by decide) hr aH rfl (aa (dg ((dR T).mono (by decide)) hr (i:=1) rfl (aa (pv 4) ao)) (aa (aF bB (pv 2) (aZ bx (pv 3) (pv 4) (fun _ _=>rfl))) ao))))))))),?_⟩
 refine ⟨_,rfl,t,_,_,_,rfl,rfl,SqT.of ht,qX _ _ _ R.tab.few,?_⟩
 refine ⟨_,rfl,_,rfl,_,rfl,ah,_,_,_,rfl,rfl,SqT.of hah,hla,_,_,rfl,p0,p1,?_⟩
 refine ⟨_,rfl,_,rfl,ah,_,_,rfl,SqT.of hah,(by rw [cU]; omega),(by rw [cU]; omega),fun lo hlo c1 c2=>?_⟩
 rw [cU] at hlo c2
 have hlo2:lo < many ns.length:=by
  rcases c2 with c2 | ⟨x,e,_⟩
  ·have e:lo=many ns.length:=by omega
   rcases c1 with c1 | ⟨x,e2,c1⟩
   ·have e3:many ns.length=0:=by omega
    have:ns.sum=0:=by
     rw [← hall,e3]
     rfl
    omega
   ·rw [nu (by omega)] at e2
    cases e2
    rw [e,hall] at c1
    omega
  ·have:=(List.getElem?_eq_some_iff.mp e).1
   rw [cU] at this
   omega
 have d1:(ns.take (32 * lo)).sum≤nth:=by
  rcases c1 with c1 | ⟨x,e2,c1⟩
  ·subst c1
   exact p0
  ·rw [nu (by omega)] at e2
   cases e2
   exact c1
 have d2:nth < (ns.take (32 * lo + 32)).sum:=by
  rcases c2 with c2 | ⟨x,e2,c2⟩
  ·omega
  ·rw [nu (by omega)] at e2
   cases e2
   exact c2
 have hat:atI ((ahd ns (many ns.length)).map V.int) (lo:Int)=some (.int (ns.take (32 * lo)).sum):=ig (nu (by omega))
 have sb:=lE hb lo 32 (by omega)
 obtain ⟨k0,hk0,hk1,hk2⟩:=Fo (bK ns lo) (nth - (ns.take (32 * lo)).sum) (by omega) 32 (by omega)
 obtain ⟨o,fd,e1,g1⟩:=R.asks.look.fn
 refine ⟨_,rfl,_,_,rfl,rfl,.inl ⟨by decide,by decide⟩,L.f,o,fd,rfl,e1,g1,_,rfl,e1,L,ss,lo,_,rfl,rfl,R.asks,hls,R.blk _ (by first | exact hm | omega),?_⟩
 refine ⟨_,rfl,_,rfl,_,rfl,ah,_,_,_,rfl,rfl,SqT.of (R.asks.putT hah),hat,_,_,rfl,rfl,?_⟩
 refine ⟨_,_,rfl,fun H' sm k hk b1 o1=>?_,fun H' sm no=>absurd ⟨hk1,hk2⟩ (no k0 hk0)⟩
 refine ⟨_,_,rfl,rfl,?_⟩
 have b1:bit (bK ns lo) k=1:=b1
 have o1:ones (bK ns lo) k=nth - (ns.take (32 * lo)).sum:=o1
 have hp:ns[32 * lo + k]?=some 1:=by
  have:=bit_at hb lo k hk
  rw [b1] at this
  cases e:ns[32 * lo + k]? with
  | none=>rw [e] at this; cases this
  | some x =>
   rw [e] at this
   have this:1=x:=this
   rw [this]
 have hs:(ns.take (32 * lo + k)).sum=nth:=by
  have:=lE hb lo k (by omega)
  omega
 have:=q H' (32 * lo + k) _ hp hs (R.wr hlo2) sm
 rw [show ((32 * lo + k:Nat):Int)=32 * (lo:Int) + (k:Int) from by omega] at this
 exact this
theorem lg.out {H:Hp} {f b:Addr} {c:rM} {cs:List Addr} {fvs:List V} {xs:List V} (h:lg H f c cs fvs) (e:H b=some (.tup xs)):b ∉ cs:=fun z=>by
 obtain ⟨i,hi⟩:=List.getElem?_of_mem z
 obtain ⟨co,v,u,_,e2,_⟩:=h.cells i b hi
 rw [e] at e2
 cases e2
def Quiet (H:Hp) (f nd:Addr) (xs:List V):Prop:=(∃ cs,lg H f bu cs [.ref nd])∧H nd=some (.tup xs)
theorem Quiet.fn {H:Hp} {f nd:Addr} {xs:List V} (h:Quiet H f nd xs) : ∃ o fd,H f=some (aP f o)∧o.data=.func fd:=by
 obtain ⟨⟨cs,ca⟩,_⟩:=h
 obtain ⟨cd,pm,ctv,oc,vs,t,h1,_⟩:=ca.ex
 exact ⟨_,_,h1,rfl⟩
theorem Quiet.same {H H':Hp} {f nd:Addr} {xs:List V} (h:Quiet H f nd xs) (s:aR H H'):Quiet H' f nd xs:=by
 obtain ⟨⟨cs,ca⟩,h2⟩:=h
 exact ⟨⟨cs,ca.same fun b o e=>s _ _ e⟩,s _ _ h2⟩
def oY:Addr→Sp:=fun f vs H Q _ => ∃ (nd:Addr) (xs:List V) (n:Nat) (x:V),vs=[.int (n:Int)]∧Quiet H f nd xs∧xs[n]?=some x∧Q x H
theorem di (T:Tx K mg a):nA P w K mg base 1 oY:=by
 refine Jb pQ (fun _ _ _ _ us hl=>match us,hl with | [_],_=>rfl) fun f vs H Q h=>?_
 obtain ⟨nd,xs,n,x,rfl,⟨⟨cs,ca⟩,h2⟩,hg,q⟩:=h
 have o2:=lg.out ca h2
 refine ⟨rfl,cs,[.ref nd],ca,fun cd A outer s hr=>⟨_,(aZ bx (pv 1) (pv 0) (fun _ _=>rfl)),?_⟩⟩
 have g2:hide H cs nd=some (.tup xs):=by rw [bF o2]; exact h2
 refine ⟨_,rfl,_,rfl,nd,_,_,_,rfl,rfl,SqT.of g2,lN hg,?_⟩
 show Q x (over H cs (hide H cs))
 rw [pA]
 exact q
def xf (Pt:Addr):Sp:=fun vs H Q _ => ∃ (t nd:Addr) (x y:V) (xs:List V),vs=[.ref t]∧H t=some (.tup [x,y,.ref nd])∧H nd=some (.tup xs)∧TabAt H Pt (jz b7) bu.qual ∧
 ∀ f H2,H f=none→vC Pt H H2→TabAt H2 Pt (jz b7) bu.qual→Quiet H2 f nd xs→Q (.ref f) H2
theorem jB (T:Tx K mg a) (B:Bs mg base a):aX P w K mg base CX0 1 a.f_heap_look a.fd_heap_look ["tables"] (xf a.tP_heap_look):=by
 refine Fun.makerL1 (T:=bu) (pos:=jz b7) T.D_heap_look.F m9 wB B.bm T.w_heap_look B.C_heap_look (fun vs H Q E h=>?_) rfl (fun cdv A outer s H vs Q E hr h=>?_)
 ·obtain ⟨t,nd,x,y,xs,rfl,_⟩:=h
  rfl
 obtain ⟨t,nd,x,y,xs,rfl,ht,hn,hT,q⟩:=h
 refine ⟨_,(aG (i:=1) m9.nd rfl (Or.inr rfl) (aZ bx (pv 0) au (fun _ _=>rfl))),?_⟩
 refine ⟨_,rfl,t,_,_,_,rfl,rfl,SqT.of ht,rfl,?_⟩
 refine ⟨hT,[.ref nd],fun j m e=>?_,rfl,fun fi cs H2 n1 n2 n3 n4 n5=>q fi H2 n1 n3 n4 ⟨⟨cs,n5⟩,n3 _ _ hn (TabAt.ne hT hn nofun)⟩⟩
 match j,e with
 | 0,e=>cases e; exact ⟨_,rfl,rfl⟩
 | j + 1,e=>simp at e
def xF:Sp:=fun vs H Q _ => ∃ (f nd:Addr) (xs:List V) (ns:List Int) (S st sp:Nat),vs=[.int (ns.length:Int),.ref f,.int (st:Int),.int (sp:Int)]∧Quiet H f nd xs∧ir ns.length S∧fU ns S 1 xs∧ns.length≤4096∧st < sp∧sp≤ns.length ∧
 ∀ (M:Int) (H':Hp),nY ns st sp M→aR H H'→Q (.int M) H'
theorem yF (T:Tx K mg a):aX P w K mg base CX0 3 a.f_least_of a.fd_least_of ["many", "look", "start", "stop"] xF:=by
 refine T.D_least_of.F.ok xU (fun vs H Q E h=>?_) (fun cdv A outer s H vs Q E hr h=>?_)
 ·obtain ⟨f,nd,xs,ns,S,st,sp,rfl,_⟩:=h
  rfl
 obtain ⟨f,nd,xs,ns,S,st,sp,rfl,hA,hSz,hv,hl,h1,h2,q⟩:=h
 refine ⟨_,(aq (aB (Ff rfl rfl T.b_min (aa (rn rfl (fj.one (j:=1) rfl (Or.inl rfl) rfl rfl (Or.inl rfl)) (dw (aD T.D_cover (sS T) (by decide) hr aH rfl (aa (pv 0) (aa (pv 2) (aa (pv 3) ao))))) (fun _ _ _ _=>qZ) (fun _ _ _ _=>(dg ((di T).mono (by decide)) hr (i:=1) rfl (aa (pv 0) ao)))) ao) cG Tw.mZ))),?_⟩
 have hS0:=hSz.pos
 have hS4:=hSz.le hl
 obtain ⟨h,eS,hlS,hj⟩:=id hSz
 have ch:=kE (st:=st) ⟨h,eS⟩ (Nat.le_of_lt h1) (show sp≤S by omega) hS0
 obtain ⟨_,v1,v2,v3⟩:=gJ hv hlS h2 ch (Nat.le_refl _)
 refine ⟨_,rfl,_,rfl,_,rfl,ns.length,st,sp,rfl,Nat.le_of_lt h1,h2,hl,fun S' r H1 hS' hr0 sm1 hr1=>⟨r,rfl,⟨_,SqL.of hr1⟩,?_⟩⟩
 have:=ir.uniq hS' hSz
 subst this
 have hfew:=Dn (st:=st) eS (Nat.le_of_lt h1) (show sp≤S' by omega)
 have hh:h≤12:=by
  rcases Nat.lt_or_ge 12 h with z | z
  ·have:=hj 12 z
   omega
  ·exact z
 have hA1:=hA.same sm1
 have en:nats (cover S' st sp)=((cover S' st sp).map fun n:Nat=>(n:Int)).map V.int:=by
  unfold nats
  rw [List.map_map]
  rfl
 rw [en] at hr1
 refine DP (fun z=>jb xs z.toNat) (SqL.of hr1) (by rw [List.length_map,sizeLine_eq]; omega) (fun _ _ _ q=>q) (fun z H' Q hz sm q=>?_) fun D hD=>?_
 ·obtain ⟨n,hn,rfl⟩:=List.mem_map.mp hz
  have hA2:=hA1.same sm
  obtain ⟨o,fd,e1,g1⟩:=hA2.fn
  exact ⟨f,o,fd,rfl,e1,g1,_,rfl,e1,nd,xs,n,_,rfl,hA2,(v1 n hn).2.2,q⟩
 have ev:(((cover S' st sp).map fun n:Nat=>(n:Int)).map fun z=>jb xs z.toNat)=(cover S' st sp).map (jb xs):=by
  rw [List.map_map]
  refine List.map_congr_left fun n _=>?_
  show jb xs ((n:Int).toNat)=_
  rw [Int.toNat_natCast]
 rw [ev]
 refine ⟨D,(cover S' st sp).map (jb xs),rfl,SqL.of az,.inr ⟨?_,fun M hM=>q _ _ (CG hv hlS h2 ch (Nat.le_refl _) hM) (sm1.trans (aA hD _))⟩⟩
 have hg:ns[st]?=some ns[st]:=List.getElem?_eq_getElem (by omega)
 obtain ⟨v,hv1,_⟩:=v3 st ns[st] (Nat.le_refl _) h1 hg
 exact List.length_pos_of_mem hv1
def An:Sp:=fun vs H Q _ => ∃ (f nd:Addr) (xs:List V) (ns:List Int) (S s n a0 e:Nat) (g:Int),vs=[.int (S:Int),.ref f,.int (n:Int),.int g,.int (s:Int)]∧Quiet H f nd xs∧fU ns S 1 xs∧ns.length≤S∧s≤1∧n * 2 ^ e=S + a0∧a0 + 2 ^ e≤ns.length∧1≤n∧jb xs n≤g ∧
 ∀ i:Nat,Hit ns s a0 (a0 + 2 ^ e) g i→Q (.int (i:Int)) H
theorem iT (T:Tx K mg a):aX P w K mg base CX0 2 a.f_place_beneath a.fd_place_beneath ["size", "look", "node", "goal", "side"] An:=by
 refine T.D_place_beneath.F.ok dz (fun vs H Q E h=>?_) (fun cdv A outer s H vs Q E hr h=>?_)
 ·obtain ⟨f,nd,xs,ns,S,s,n,a0,e,g,rfl,_⟩:=h
  rfl
 obtain ⟨f,nd,xs,ns,S,sd,n,a0,e,g,rfl,hA,hv,hlS,hs,hn,ha,h1,hg,q⟩:=h
 refine ⟨_,(aj (aG (i:=5) dz.nd rfl (Or.inl rfl) (pv 2))
  (aj (gB PassesOwn.never (aK ji (pv 5) (pv 0) (aM _)) (aj (aG (i:=5) dz.nd rfl (Or.inl rfl) (aF bj (aF bR au (pv 5)) (pv 4)))
  (aq (aW (aK dF (dg ((di T).mono (by decide)) hr (i:=1) rfl (aa (pv 5) ao)) (pv 3) (aM _)) (aq (aG (i:=5) dz.nd rfl (Or.inl rfl) (aF bB (aF bj (pv 5) au) (aF bR au (pv 4))))) aL))))
  (aq (aB (aF bB (pv 5) (pv 0)))))),?_⟩
 refine ⟨_,rfl,?_⟩
 refine ⟨fun m σ H' => ∃ (k e' b:Nat),σ=[some (.int (S:Int)),some (.ref f),some (.int (n:Int)),some (.int g),some (.int (sd:Int)),some (.int (k:Int))]∧m=e'∧uA ns xs S sd a0 (a0 + 2 ^ e) g e' k b∧H'=H,
  ⟨_,n,e,a0,rfl,rfl,uA.start hn h1 hg,rfl⟩,?_⟩
 rintro e' σ H' ⟨k,_,b,rfl,rfl,hd,rfl⟩
 refine ⟨_,rfl,_,rfl,_,_,rfl,rfl,_,rfl,aO (fun c=>?_) fun c=>?_⟩
 ·have c:(k:Int) < (S:Int):=of_decide_eq_true c
  rcases e' with _ | e'
  ·have:=(hd.hit hv hlS ha hs).1
   omega
  obtain ⟨v,xv,km,kb,d1,d2⟩:=hd.step hv hlS ha hs
  refine ⟨_,fun σ' H2 z=>z,?_⟩
  refine ⟨_,rfl,_,_,rfl,rfl,.inl ⟨by decide,by decide⟩,_,rfl,_,_,rfl,rfl,?_⟩
  obtain ⟨o,fd,e1,g1⟩:=hA.fn
  have ek:(2:Int) * (k:Int) + (sd:Int)=((2 * k + sd:Nat):Int):=by omega
  have hone:=hd.one
  refine ⟨f,o,fd,rfl,e1,g1,_,rfl,e1,nd,xs,2 * k + sd,_,?_,hA,xv,?_⟩
  ·exact congrArg (fun v=>[v]) (congrArg V.int ek)
  refine ⟨_,rfl,_,_,rfl,rfl,_,rfl,aO (fun z=>?_) fun z=>?_⟩
  ·have z:g < v:=of_decide_eq_true z
   obtain ⟨b',d'⟩:=d2 z
   refine ⟨_,rfl,_,_,rfl,rfl,_,rfl,_,_,rfl,rfl,.inl ⟨by decide,by decide⟩,_,_,rfl,rfl,e',by omega,2 * k + 1 - sd,e',b',?_,rfl,d',rfl⟩
   rw [show ((2 * k + 1 - sd:Nat):Int)=2 * (k:Int) + (sd:Int) + 1 - 2 * (sd:Int) from by omega]
   rfl
  ·have z : ¬ g < v:=fun y=>z (decide_eq_true y)
   obtain ⟨b',d'⟩:=d1 (by omega)
   refine ⟨e',by omega,2 * k + sd,e',b',?_,rfl,d',rfl⟩
   rw [← ek]
   rfl
 ·have c : ¬ (k:Int) < (S:Int):=fun y=>c (decide_eq_true y)
  rcases e' with _ | e'
  ·obtain ⟨ek,hh⟩:=hd.hit hv hlS ha hs
   refine ⟨_,rfl,_,rfl,_,_,rfl,rfl,?_⟩
   have:=q b hh
   rw [show (b:Int)=(k:Int) - (S:Int) from by omega] at this
   exact this
  ·obtain ⟨v,xv,km,_⟩:=hd.step hv hlS ha hs
   omega
def Et:Sp:=fun vs H Q _ => ∃ (f nd:Addr) (xs:List V) (ns:List Int) (S st:Nat) (g:Int),vs=[.int (ns.length:Int),.ref f,.int (st:Int),.int g]∧Quiet H f nd xs∧ir ns.length S∧fU ns S 1 xs∧ns.length≤4096∧st≤ns.length ∧
 ∀ (x:V) (H':Hp),aR H H'→((x=.non ∧ ∀ j c,st≤j→ns[j]?=some c→g < c) ∨ ∃ i:Nat,x=.int (i:Int)∧Hit ns 0 st ns.length g i)→Q x H'
theorem pZ (T:Tx K mg a):aX P w K mg base CX0 3 a.f_first_at_most a.fd_first_at_most ["many", "look", "start", "goal"] Et:=by
 refine T.D_first_at_most.F.ok jc (fun vs H Q E h=>?_) (fun cdv A outer s H vs Q E hr h=>?_)
 ·obtain ⟨f,nd,xs,ns,S,st,g,rfl,_⟩:=h
  rfl
 obtain ⟨f,nd,xs,ns,S,st,g,rfl,hA,hSz,hv,hl,h1,q⟩:=h
 refine ⟨_,(aj (bV PassesOwn.never rfl (dw (aD T.D_cover (sS T) (by decide) hr aH rfl (aa (pv 0) (aa (pv 2) (aa (pv 0) ao))))) (aV (i:=4) jc.nd rfl (Or.inl rfl)) (aq (aW (aK dU (dg ((di T).mono (by decide)) hr (i:=1) rfl (aa (pv 4) ao)) (pv 3) (aM _)) (aq (aB (aD T.D_place_beneath (iT T) (by decide) hr aH rfl (aa (aD T.D_size_of (jA T) (by decide) hr aH rfl (aa (pv 0) ao)) (aa (pv 1) (aa (pv 4) (aa (pv 3) (aa au ao)))))))) aL)))
  (aq (aB cG))),?_⟩
 have hS0:=hSz.pos
 obtain ⟨h,eS,hlS,hj⟩:=id hSz
 refine ⟨_,rfl,_,rfl,_,rfl,ns.length,st,ns.length,rfl,h1,Nat.le_refl _,hl,fun S' r H1 hS' hr0 sm1 hr1=>?_⟩
 have:=ir.uniq hS' hSz
 subst this
 have ch:=kE (st:=st) ⟨h,eS⟩ h1 hlS hS0
 obtain ⟨_,v1,_,_⟩:=gJ hv hlS (Nat.le_refl _) ch (Nat.le_refl _)
 have hA1:=hA.same sm1
 refine ⟨r,rfl,⟨_,SqL.of hr1⟩,?_⟩
 refine cO (xs:=nats (cover S' st ns.length)) (fun i σ H'=>(∃ k4,σ=[some (.int (ns.length:Int)),some (.ref f),some (.int (st:Int)),some (.int g),k4])∧H'=H1 ∧ ∃ (b:Nat),Chain S' st ns.length ((cover S' st ns.length).drop i) (S' + b) (S' + ns.length)∧st≤b ∧ ∀ j c,st≤j→j < b→ns[j]?=some c→g < c) ⟨⟨none,rfl⟩,rfl,st,ch,Nat.le_refl _,fun j c j1 j2=>by omega⟩ ?_ ?_ ?_
 ·rintro i σ H' _ ⟨_,rfl,_⟩
  exact SqL.of hr1
 ·rintro i x σ H' hx ⟨⟨k4,rfl⟩,rfl,b,chi,hb,hlow⟩
  unfold nats at hx
  rw [List.getElem?_map] at hx
  obtain ⟨n,hn,rfl⟩ : ∃ n,(cover S' st ns.length)[i]?=some n∧x=.int (n:Int):=by
   cases e:(cover S' st ns.length)[i]? with
   | none=>rw [e] at hx; cases hx
   | some n=>rw [e] at hx; exact ⟨n,rfl,(Option.some.inj hx).symm⟩
  have hi:=(List.getElem?_eq_some_iff.mp hn).1
  have hd:(cover S' st ns.length).drop i=n :: (cover S' st ns.length).drop (i + 1):=by
   rw [List.drop_eq_getElem_cons hi]
   congr 1
   exact (List.getElem?_eq_some_iff.mp hn).2
  rw [hd] at chi
  obtain ⟨e,ex,⟨n1,n2,n3,n4⟩,chn⟩:=chi
  have hp:0 < 2 ^ e:=Nat.two_pow_pos e
  have e5:(n + 1) * 2 ^ e=S' + (b + 2 ^ e):=by rw [Nat.succ_mul,ex]; omega
  rw [e5] at chn n3
  obtain ⟨w1,w2,w3⟩:=v1 n (List.mem_of_getElem? hn)
  obtain ⟨M,m1,m2,m3⟩:=hv.least hlS e n b ex (by omega) n1
  have ev:=gm m1
  obtain ⟨o,fd,e1,g1⟩:=hA1.fn
  refine ⟨f,o,fd,rfl,e1,g1,_,rfl,e1,nd,xs,n,_,rfl,hA1,w3,?_⟩
  refine ⟨_,rfl,_,_,rfl,rfl,_,rfl,aO (fun z=>?_) fun z=>?_⟩
  ·have z:jb xs n≤g:=of_decide_eq_true z
   refine ⟨_,rfl,ns.length,rfl,by omega,fun S2 hS2=>?_⟩
   have:=ir.uniq hS2 hSz
   subst this
   refine ⟨_,rfl,_,rfl,_,rfl,f,nd,xs,ns,S2,0,n,b,e,g,rfl,hA1,hv,hlS,by decide,ex,by omega,n1,z,fun p hh4=>?_⟩
   refine q _ _ sm1 (.inr ⟨p,rfl,?_⟩)
   obtain ⟨p1,p2,p3,p4⟩:=hh4
   refine ⟨by omega,by omega,p3,fun j c j1 j2 j3 ec=>?_⟩
   rw [if_pos rfl] at j3
   rcases Nat.lt_or_ge j b with y | y
   ·exact hlow j c j1 y ec
   ·exact p4 j c y (by omega) (by rw [if_pos rfl]; exact j3) ec
  ·have z : ¬ jb xs n≤g:=fun y=>z (decide_eq_true y)
   refine ⟨⟨_,rfl⟩,rfl,b + 2 ^ e,chn,by omega,fun j c j1 j2 ec=>?_⟩
   rcases Nat.lt_or_ge j b with y | y
   ·exact hlow j c j1 y ec
   ·have:=m3 j c y j2 ec
    omega
 ·rintro σ H' ⟨⟨k4,rfl⟩,rfl,b,chi,hb,hlow⟩
  have e0:(nats (cover S' st ns.length)).length=(cover S' st ns.length).length:=List.length_map ..
  rw [e0,List.drop_length] at chi
  have chi:S' + b=S' + ns.length:=chi
  refine q _ _ sm1 (.inl ⟨rfl,fun j c j1 ec=>?_⟩)
  have:=(List.getElem?_eq_some_iff.mp ec).1
  exact hlow j c j1 (by omega) ec
def Gp:Sp:=fun vs H Q _ => ∃ (f nd:Addr) (xs:List V) (ns:List Int) (S sp:Nat) (g:Int),vs=[.int (ns.length:Int),.ref f,.int (sp:Int),.int g]∧Quiet H f nd xs∧ir ns.length S∧fU ns S 1 xs∧ns.length≤4096∧sp≤ns.length ∧
 ∀ (x:V) (H':Hp),aR H H'→((x=.non ∧ ∀ j c,j < sp→ns[j]?=some c→g < c) ∨ ∃ i:Nat,x=.int (i:Int)∧Hit ns 1 0 sp g i)→Q x H'
theorem qU (T:Tx K mg a):aX P w K mg base CX0 3 a.f_last_at_most a.fd_last_at_most ["many", "look", "stop", "goal"] Gp:=by
 refine T.D_last_at_most.F.ok jO (fun vs H Q E h=>?_) (fun cdv A outer s H vs Q E hr h=>?_)
 ·obtain ⟨f,nd,xs,ns,S,sp,g,rfl,_⟩:=h
  rfl
 obtain ⟨f,nd,xs,ns,S,sp,g,rfl,hA,hSz,hv,hl,h1,q⟩:=h
 refine ⟨_,(aj (bV PassesOwn.never rfl (Ba rfl T.b_reversed (aa (aD T.D_cover (sS T) (by decide) hr aH rfl (aa (pv 0) (aa au (aa (pv 2) ao)))) ao) Tw.ie) (aV (i:=4) jO.nd rfl (Or.inl rfl)) (aq (aW (aK dU (dg ((di T).mono (by decide)) hr (i:=1) rfl (aa (pv 4) ao)) (pv 3) (aM _)) (aq (aB (aD T.D_place_beneath (iT T) (by decide) hr aH rfl (aa (aD T.D_size_of (jA T) (by decide) hr aH rfl (aa (pv 0) ao)) (aa (pv 1) (aa (pv 4) (aa (pv 3) (aa au ao)))))))) aL)))
  (aq (aB cG))),?_⟩
 have hS0:=hSz.pos
 obtain ⟨h,eS,hlS,hj⟩:=id hSz
 refine ⟨_,rfl,_,rfl,ns.length,0,sp,rfl,Nat.zero_le _,h1,hl,fun S' r H1 hS' hr0 sm1 hr1=>?_⟩
 have:=ir.uniq hS' hSz
 subst this
 have ch:=kE (st:=0) ⟨h,eS⟩ (Nat.zero_le sp) (by omega) hS0
 obtain ⟨_,v1,_,_⟩:=gJ hv hlS h1 ch (Nat.le_refl _)
 have hA1:=hA.same sm1
 have e0:(nats (cover S' 0 sp)).length=(cover S' 0 sp).length:=List.length_map ..
 refine ⟨r,_,rfl,SqL.of hr1,?_⟩
 refine wL (xs:=nats (cover S' 0 sp)) (fun i σ H'=>(∃ k4,σ=[some (.int (ns.length:Int)),some (.ref f),some (.int (sp:Int)),some (.int g),k4])∧H'=H1 ∧ ∃ (b:Nat),Chain S' 0 sp ((cover S' 0 sp).take ((cover S' 0 sp).length - i)) (S' + 0) (S' + b)∧b≤sp ∧ ∀ j c,b≤j→j < sp→ns[j]?=some c→g < c) ⟨⟨none,rfl⟩,rfl,sp,by rw [Nat.sub_zero,List.take_length]; exact ch,Nat.le_refl _,fun j c j1 j2=>by omega⟩ ?_ ?_ ?_
 ·rintro i σ H' _ ⟨_,rfl,_⟩
  exact SqL.of hr1
 ·rintro i x σ H' hi hx ⟨⟨k4,rfl⟩,rfl,b,chi,hb,hlow⟩
  rw [e0] at hi hx
  unfold nats at hx
  rw [List.getElem?_map] at hx
  obtain ⟨n,hn,rfl⟩ : ∃ n,(cover S' 0 sp)[(cover S' 0 sp).length - 1 - i]?=some n∧x=.int (n:Int):=by
   cases e:(cover S' 0 sp)[(cover S' 0 sp).length - 1 - i]? with
   | none=>rw [e] at hx; cases hx
   | some n=>rw [e] at hx; exact ⟨n,rfl,(Option.some.inj hx).symm⟩
  have et:(cover S' 0 sp).take ((cover S' 0 sp).length - i)=(cover S' 0 sp).take ((cover S' 0 sp).length - (i + 1)) ++ [n]:=by
   rw [show (cover S' 0 sp).length - i=((cover S' 0 sp).length - (i + 1)) + 1 from by omega,List.take_add_one,show (cover S' 0 sp).length - (i + 1)=(cover S' 0 sp).length - 1 - i from by omega,hn]
   rfl
  obtain ⟨y,y1,y2⟩:=qz ((cover S' 0 sp).length - (i + 1)) chi
  have elen:((cover S' 0 sp).take ((cover S' 0 sp).length - (i + 1))).length=(cover S' 0 sp).length - (i + 1):=by
   rw [List.length_take]
   omega
  rw [et,List.take_append_of_le_length (by rw [elen]; exact Nat.le_refl _),List.take_of_length_le (by rw [elen]; exact Nat.le_refl _)] at y1
  rw [et,List.drop_append_of_le_length (by rw [elen]; exact Nat.le_refl _),List.drop_of_length_le (by rw [elen]; exact Nat.le_refl _),List.nil_append] at y2
  obtain ⟨e,ex,⟨n1,n2,n3,n4⟩,chn⟩:=y2
  have hy:=yU y1
  obtain ⟨a0,rfl⟩ : ∃ a0,y=S' + a0:=⟨y - S',by omega⟩
  have hp:0 < 2 ^ e:=Nat.two_pow_pos e
  have e5:(n + 1) * 2 ^ e=S' + (a0 + 2 ^ e):=by rw [Nat.succ_mul,ex]; omega
  have chn:(n + 1) * 2 ^ e=S' + b:=chn
  rw [e5] at chn n3
  obtain ⟨w1,w2,w3⟩:=v1 n (List.mem_of_getElem? hn)
  obtain ⟨M,m1,m2,m3⟩:=hv.least hlS e n a0 ex (by omega) n1
  have ev:=gm m1
  obtain ⟨o,fd,e1,g1⟩:=hA1.fn
  refine ⟨f,o,fd,rfl,e1,g1,_,rfl,e1,nd,xs,n,_,rfl,hA1,w3,?_⟩
  refine ⟨_,rfl,_,_,rfl,rfl,_,rfl,aO (fun z=>?_) fun z=>?_⟩
  ·have z:jb xs n≤g:=of_decide_eq_true z
   refine ⟨_,rfl,ns.length,rfl,by omega,fun S2 hS2=>?_⟩
   have:=ir.uniq hS2 hSz
   subst this
   refine ⟨_,rfl,_,rfl,_,rfl,f,nd,xs,ns,S2,1,n,a0,e,g,rfl,hA1,hv,hlS,by decide,ex,by omega,n1,z,fun p hh4=>?_⟩
   refine q _ _ sm1 (.inr ⟨p,rfl,?_⟩)
   obtain ⟨p1,p2,p3,p4⟩:=hh4
   refine ⟨Nat.zero_le _,by omega,p3,fun j c j1 j2 j3 ec=>?_⟩
   rw [if_neg (by decide)] at j3
   rcases Nat.lt_or_ge j b with y | y
   ·exact p4 j c (by omega) (by omega) (by rw [if_neg (by decide)]; exact j3) ec
   ·exact hlow j c y j2 ec
  ·have z : ¬ jb xs n≤g:=fun y=>z (decide_eq_true y)
   refine ⟨⟨_,rfl⟩,rfl,a0,y1,by omega,fun j c j1 j2 ec=>?_⟩
   rcases Nat.lt_or_ge j b with y | y
   ·have:=m3 j c j1 (by omega) ec
    omega
   ·exact hlow j c y j2 ec
 ·rintro σ H' ⟨⟨k4,rfl⟩,rfl,b,chi,hb,hlow⟩
  rw [e0,Nat.sub_self,List.take_zero] at chi
  have chi:S' + 0=S' + b:=chi
  exact q _ _ sm1 (.inl ⟨rfl,fun j c j1 ec=>hlow j c (by omega) j1 ec⟩)
structure BP where
 t:Addr
 L:LK
 ah:Addr
 nd:Addr
 ns:List Int
 lows:List Int
 S:Nat
 xs:List V
structure Brk (H:Hp) (Ph:Addr) (p:BP) (ss:List Int):Prop where
 ask:Ask H p.t p.L p.ah p.ns ss [.ref p.nd]
 nds:H p.nd=some (.tup p.xs)
 low:lL p.ns p.lows
 sz:ir p.lows.length p.S
 heap:fU p.lows p.S 1 p.xs
 tab:TabAt H Ph (jz b7) bu.qual
structure Did (H H':Hp) (Ph:Addr) (L:LK) (k:Nat) (ss ss':List Int):Prop where
 kp : ∀ b o,H b=some o→b ≠ Ph→L.wr ≠ some b→H' b=some o
 seen : ∀ sn,L.wr=some sn→H' sn=some (.lst (ss'.map V.int))
 tab:TabAt H' Ph (jz b7) bu.qual
 wr:cI L.all.length k ss ss'
theorem Did.trans {H H1 H2:Hp} {Ph:Addr} {L:LK} {j k:Nat} {a b c:List Int} (h:Did H H1 Ph L j a b) (h':Did H1 H2 Ph L k b c):Did H H2 Ph L (j + k) a c :=
 ⟨fun x o e n1 n2=>h'.kp x o (h.kp x o e n1 n2) n1 n2,h'.seen,h'.tab,h.wr.trans h'.wr⟩
theorem Did.le {H H1:Hp} {Ph:Addr} {L:LK} {j k:Nat} {a b:List Int} (h:Did H H1 Ph L j a b) (hk:j≤k):Did H H1 Ph L k a b:=⟨h.kp,h.seen,h.tab,h.wr.le hk⟩
theorem Did.same {H H1 H2:Hp} {Ph:Addr} {L:LK} {j:Nat} {a b:List Int} (h:Did H H1 Ph L j a b) (s:aR H1 H2):Did H H2 Ph L j a b :=
 ⟨fun x o e n1 n2=>s _ _ (h.kp x o e n1 n2),fun sn e=>s _ _ (h.seen sn e),TabAt.same h.tab s,h.wr⟩
theorem Brk.self {H:Hp} {Ph:Addr} {p:BP} {ss:List Int} (h:Brk H Ph p ss):Did H H Ph p.L 0 ss ss:=⟨fun _ _ e _ _=>e,fun sn e=>(h.ask.asks.seen sn e).1,h.tab,cI.none ss⟩
theorem TabAt.put {H:Hp} {P:Addr} {pos:Pos} {q:Str} {L:LK} {ss tt:List Int} (h:TabAt H P pos q) (a:Asks H L ss):TabAt (L.put H tt) P pos q:=by
 cases e:L.wr with
 | none =>
  rw [LK.put_none e]
  exact h
 | some sn =>
  rw [LK.put_some e]
  exact TabAt.upd h (a.seen sn e).1
theorem Brk.look {H H':Hp} {Ph:Addr} {p:BP} {ss ss':List Int} (h:Brk H Ph p ss) {k:Nat} (w:cI p.L.all.length k ss ss') (s:aR (p.L.put H ss') H'):Did H H' Ph p.L k ss ss' :=
 ⟨fun x o e n1 n2=>s _ _ (by rw [LK.put_ne n2]; exact e),fun sn e=>s _ _ (by rw [LK.put_some e]; exact az),TabAt.same (TabAt.put h.tab h.ask.asks) s,w⟩
theorem Brk.did {H H':Hp} {Ph:Addr} {p:BP} {ss ss':List Int} {k:Nat} (h:Brk H Ph p ss) (d:Did H H' Ph p.L k ss ss') (hl:ss'.length≤1000):Brk H' Ph p ss':=by
 have nP : ∀ b o,H b=some o→(∀ ps,o ≠ .tbl ps)→b ≠ Ph:=fun b o e n=>TabAt.ne h.tab e n
 have nS : ∀ b o,H b=some o→(∀ ps,o ≠ .lst ps)→p.L.wr ≠ some b:=fun b o e n z=>by
  rw [(h.ask.asks.seen b z).1] at e
  cases e
  exact n _ rfl
 have k1 : ∀ b o,H b=some o→(∀ ps,o ≠ .tbl ps)→(∀ ps,o ≠ .lst ps)→H' b=some o:=fun b o e n1 n2=>d.kp b o e (nP b o e n1) (nS b o e n2)
 have nB:p.L.wr ≠ some p.L.bl:=fun z=>(h.ask.asks.seen _ z).2 rfl
 have hb:=d.kp _ _ h.ask.asks.nodes (nP _ _ h.ask.asks.nodes nofun) nB
 exact ⟨⟨⟨k1 _ _ h.ask.tab.tup nofun nofun,k1 _ _ h.ask.tab.ahs nofun nofun,h.ask.tab.few⟩,⟨h.ask.asks.look.kept k1,fun sn e=>⟨d.seen sn e,(h.ask.asks.seen sn e).2⟩,hb,hl⟩,h.ask.bits,h.ask.len,h.ask.blk⟩,k1 _ _ h.nds nofun nofun,h.low,h.sz,h.heap,d.tab⟩
theorem Brk.same {H H':Hp} {Ph:Addr} {p:BP} {ss:List Int} (h:Brk H Ph p ss) (s:aR H H'):Brk H' Ph p ss:=⟨h.ask.same s,s _ _ h.nds,h.low,h.sz,h.heap,TabAt.same h.tab s⟩
theorem Brk.lenL {H:Hp} {Ph:Addr} {p:BP} {ss:List Int} (h:Brk H Ph p ss):p.lows.length=many p.ns.length∧many p.ns.length≤128:=⟨h.low.len,by have:=h.ask.len; unfold many; omega⟩
theorem Brk.made {H H':Hp} {Ph:Addr} {p:BP} {ss:List Int} (h:Brk H Ph p ss) (b:vC Ph H H') (t:TabAt H' Ph (jz b7) bu.qual):Did H H' Ph p.L 0 ss ss :=
 ⟨fun x o e n1 _=>b x o e n1,fun sn e=>b _ _ (h.ask.asks.seen sn e).1 (TabAt.ne h.tab (h.ask.asks.seen sn e).1 nofun),t,cI.none ss⟩
theorem Did.free {H H':Hp} {Ph l:Addr} {L:LK} {k:Nat} {ss ss':List Int} (d:Did H H' Ph L k ss ss') (h:H' l=none):H l=none:=by
 cases e:H l with
 | none=>rfl
 | some o =>
  by_cases z1:l=Ph
  ·obtain ⟨ps,h1,_⟩:=d.tab
   rw [z1,h1] at h
   cases h
  by_cases z2:L.wr=some l
  ·rw [d.seen l z2] at h
   cases h
  rw [d.kp l o e z1 z2] at h
  cases h
theorem Did.set {H X:Hp} {Ph r:Addr} {L:LK} {k:Nat} {ss us:List Int} {vs ws:List V} (d:Did H X Ph L k ss us) (hn:H r=none) (hx:X r=some (.lst vs)) (nr:L.wr ≠ some r):Did H (L2.upd X r (.lst ws)) Ph L k ss us :=
 ⟨fun b o e n1 n2=>by rw [aJ (aN e hn)]; exact d.kp b o e n1 n2,fun sn e=>by rw [aJ (fun z=>nr (by rw [e,z]))]; exact d.seen sn e,TabAt.upd d.tab hx,d.wr⟩
def qM:Sp:=fun vs H Q _ => ∃ (j at0:Nat),vs=[.int (j:Int),.int (at0:Int)]∧Q (.int ((at0 - 32 * j:Nat):Int)) H
theorem jN (T:Tx K mg a):aX P w K mg base CX0 1 a.f_start_within a.fd_start_within ["number", "at"] qM:=by
 refine T.D_start_within.F.ok qI (fun vs H Q E h=>?_) (fun cdv A outer s H vs Q E hr h=>?_)
 ·obtain ⟨j,at0,rfl,_⟩:=h
  rfl
 obtain ⟨j,at0,rfl,q⟩:=h
 refine ⟨_,(aq (aB (aY (vm rfl) rfl T.b_max Tw.Gd (aa (aF bB (pv 1) (aF bR (bh (v:=.int 32) rfl T.c_BLOCK_BITS ⟨_,rfl⟩) (pv 0))) (aa au ao))))),?_⟩
 refine ⟨_,rfl,_,rfl,_,_,rfl,rfl,.inl ⟨by decide,by decide⟩,_,_,rfl,rfl,_,_,rfl,?_⟩
 have e:(if (at0:Int) - 32 * (j:Int) < 0 then (0:Int) else (at0:Int) - 32 * (j:Int))=((at0 - 32 * j:Nat):Int):=by
  split <;> omega
 rw [← e] at q
 exact q
def tK:Sp:=fun vs H Q _ => ∃ (t ah:Addr) (ns:List Int) (rest:List V),vs=[.ref t]∧Tab H t ah ns rest∧Q (.int (many ns.length:Nat)) H
theorem gK (T:Tx K mg a):aX P w K mg base CX0 1 a.f_block_count a.fd_block_count ["tables"] tK:=by
 refine T.D_block_count.F.ok tQ (fun vs H Q E h=>?_) (fun cdv A outer s H vs Q E hr h=>?_)
 ·obtain ⟨t,ah,ns,rest,rfl,_⟩:=h
  rfl
 obtain ⟨t,ah,ns,rest,rfl,hT,q⟩:=h
 refine ⟨_,(aq (aB (aF bB (aY aQ rfl T.b_len Tw.bW (aa (aZ bx (pv 0) au (fun _ _=>rfl)) ao)) au))),?_⟩
 refine ⟨_,rfl,t,_,_,_,rfl,rfl,SqT.of hT.tup,qX _ _ _ hT.few,ah,_,rfl,.inr (SqT.of hT.ahs),_,_,rfl,rfl,?_⟩
 have e:(((ahd ns (many ns.length)).map V.int).length:Int) - 1=((many ns.length:Nat):Int):=by
  rw [List.length_map,cU]
  omega
 rw [← e] at q
 exact q
def qO:Sp:=fun vs H Q _ => ∃ (j:Nat) (x:V),vs=[.int (j:Int),x]∧((x=.non∧Q .non H) ∨ ∃ k:Nat,x=.int (k:Int)∧Q (.int ((32 * j + k:Nat):Int)) H)
theorem jQ (T:Tx K mg a):aX P w K mg base CX0 1 a.f_place_of_bit a.fd_place_of_bit ["number", "within"] qO:=by
 refine T.D_place_of_bit.F.ok qL (fun vs H Q E h=>?_) (fun cdv A outer s H vs Q E hr h=>?_)
 ·obtain ⟨j,x,rfl,_⟩:=h
  rfl
 obtain ⟨j,x,rfl,h⟩:=h
 refine ⟨_,(aj (aW (gP (jG (pv 1))) (aq (aB cG)) aL)
  (aq (aB (aF bj (aF bR (bh (v:=.int 32) rfl T.c_BLOCK_BITS ⟨_,rfl⟩) (pv 0)) (pv 1))))),?_⟩
 rcases h with ⟨rfl,q⟩ | ⟨k,rfl,q⟩
 ·exact ⟨_,rfl,_,rfl,fK q⟩
 ·refine ⟨_,rfl,_,rfl,cW ⟨_,rfl,_,_,rfl,rfl,.inl ⟨by decide,by decide⟩,_,rfl,_,_,rfl,rfl,?_⟩⟩
  rw [show ((32 * j + k:Nat):Int)=32 * (j:Int) + (k:Int) from by omega] at q
  exact q
def qP:Sp:=fun vs H Q _ => ∃ (t:Addr) (L:LK) (ah:Addr) (ns ss:List Int) (rest:List V) (j at0:Nat) (g:Int),vs=[.ref t,.ref L.f,.int (j:Int),.int (at0:Int),.int g]∧Ask H t L ah ns ss rest∧ss.length < 1000∧32 * j < ns.length ∧
 ∀ x ss' H',((x=.non∧cF ns (max at0 (32 * j)) (32 * j + wide ns.length j) g) ∨ ∃ k:Nat,x=.int (k:Int)∧dJ ns (max at0 (32 * j)) (32 * j + wide ns.length j) g k)→cI L.all.length 1 ss ss'→aR (L.put H ss') H'→Q x H'
theorem jP (T:Tx K mg a):aX P w K mg base CX0 5 a.f_first_within a.fd_first_within ["tables", "look", "number", "at", "goal"] qP:=by
 refine T.D_first_within.F.ok fX (fun vs H Q E h=>?_) (fun cdv A outer s H vs Q E hr h=>?_)
 ·obtain ⟨t,L,ah,ns,ss,rest,j,at0,g,rfl,_⟩:=h
  rfl
 obtain ⟨t,L,ah,ns,ss,rest,j,at0,g,rfl,hA,hls,hj,q⟩:=h
 refine ⟨_,(aj (aG (i:=5) fX.nd rfl (Or.inl rfl) (aD T.D_start_within (jN T) (by decide) hr aH rfl (aa (pv 2) (aa (pv 3) ao))))
  (aj (aG (i:=6) fX.nd rfl (Or.inl rfl) (aD T.D_end_within (fH T) (by decide) hr aH rfl (aa (pv 2) (aa (aZ bx (pv 0) au (fun _ _=>rfl)) ao))))
  (aq (aB (aD T.D_place_of_bit (jQ T) (by decide) hr aH rfl (aa (pv 2) (aa (aD T.D_first_low_in (qK T) (by decide) hr aH rfl (aa (dg ((dR T).mono (by decide)) hr (i:=1) rfl (aa (pv 2) ao)) (aa (pv 5) (aa (pv 6) (aa (aF bB (pv 4) (aD T.D_base_of (jt T) (by decide) hr aH rfl (aa (pv 0) (aa (pv 2) ao)))) ao))))) ao))))))),?_⟩
 obtain ⟨o,fd,e1,g1⟩:=hA.asks.look.fn
 have hm:j < many ns.length:=by
  unfold many
  omega
 have hw:wide ns.length j≤32:=by
  unfold wide
  omega
 refine ⟨_,rfl,_,rfl,j,at0,rfl,?_⟩
 refine ⟨_,rfl,_,rfl,t,_,_,_,rfl,rfl,SqT.of hA.tab.tup,lJ _ _ _ hA.tab.few,j,ns.length,rfl,Nat.le_of_lt hj,?_⟩
 refine ⟨_,rfl,L.f,o,fd,rfl,e1,g1,_,rfl,e1,L,ss,j,_,rfl,rfl,hA.asks,hls,hA.blk _ (by first | exact hm | omega),?_⟩
 have hA2:=hA.more (tt:=ss ++ [((L.off + j:Nat):Int)]) (by rw [List.length_append,List.length_singleton]; omega)
 refine ⟨_,rfl,_,rfl,_,rfl,_,rfl,_,rfl,t,ah,ns,rest,j,rfl,hA2.tab,Nat.le_of_lt hm,_,_,rfl,rfl,?_⟩
 have em:32 * j + (at0 - 32 * j)=max at0 (32 * j):=by omega
 have w:=hA.wr hm
 refine ⟨bK ns j,at0 - 32 * j,wide ns.length j,g - ht ns (32 * j),rfl,hw,fun H' k sm hd hle=>?_,fun H' sm hno=>?_⟩
 ·have:=first_within hA.bits hw hd hle
  rw [em] at this
  exact ⟨j,_,rfl,.inr ⟨k,rfl,q _ _ H' (.inr ⟨_,rfl,this⟩) w sm⟩⟩
 ·have:=qw hA.bits hw hno
  rw [em] at this
  exact ⟨j,_,rfl,.inl ⟨rfl,q _ _ H' (.inl ⟨rfl,this⟩) w sm⟩⟩
def uM (Ph:Addr):Sp:=fun vs H Q _ => ∃ (p:BP) (ss:List Int) (at0:Nat) (g:Int),vs=[.ref p.t,.ref p.L.f,.int (at0:Int),.int g]∧Brk H Ph p ss∧ss.length≤990∧at0≤p.ns.length ∧
 ∀ x ss' H',((x=.non∧cF p.ns at0 p.ns.length g) ∨ ∃ k:Nat,x=.int (k:Int)∧dJ p.ns at0 p.ns.length g k)→Did H H' Ph p.L 2 ss ss'→Q x H'
theorem uG (T:Tx K mg a) (B:Bs mg base a):aX P w K mg base CX0 6 a.f_low_behind a.fd_low_behind ["tables", "look", "at", "goal"] (uM a.tP_heap_look):=by
 refine T.D_low_behind.F.ok fJ (fun vs H Q E h=>?_) (fun cdv A outer s H vs Q E hr h=>?_)
 ·obtain ⟨p,ss,at0,g,rfl,_⟩:=h
  rfl
 obtain ⟨p,ss,at0,g,rfl,hB,hls,h1,q⟩:=h
 refine ⟨_,(aj (bc (aD T.D_check_place (eX T) (by decide) hr aH rfl (aa (pv 2) (aa (aZ bx (pv 0) au (fun _ _=>rfl)) ao))))
  (aj (aW (aK bJ (pv 2) (aZ bx (pv 0) au (fun _ _=>rfl)) (aM _)) (aq (aB cG)) aL)
  (aj (aG (i:=4) fJ.nd rfl (Or.inl rfl) (aF cu (pv 2) (bh (v:=.int 32) rfl T.c_BLOCK_BITS ⟨_,rfl⟩)))
  (aj (aG (i:=5) fJ.nd rfl (Or.inl rfl) (aD T.D_first_within (jP T) (by decide) hr aH rfl (aa (pv 0) (aa (pv 1) (aa (pv 4) (aa (pv 2) (aa (pv 3) ao)))))))
  (aj (aW (gP (vX (pv 5))) (aq (aB (pv 5))) aL)
  (aj (aG (i:=6) fJ.nd rfl (Or.inl rfl) (aD T.D_first_at_most (pZ T) (by decide) hr aH rfl (aa (aD T.D_block_count (gK T) (by decide) hr aH rfl (aa (pv 0) ao)) (aa (aD T.D_heap_look (jB T B) (by decide) hr aH rfl (aa (pv 0) ao)) (aa (aF bj (pv 4) au) (aa (pv 3) ao))))))
  (aj (aW (gP (jG (pv 6))) (aq (aB cG)) aL)
  (aq (aB (aD T.D_first_within (jP T) (by decide) hr aH rfl (aa (pv 0) (aa (pv 1) (aa (pv 6) (aa (pv 2) (aa (pv 3) ao))))))))))))))),?_⟩
 have hlen:=hB.ask.len
 refine ⟨_,rfl,_,rfl,p.t,_,_,_,rfl,rfl,SqT.of hB.ask.tab.tup,rfl,_,_,rfl,by omega,by omega,?_⟩
 refine ⟨_,rfl,_,rfl,p.t,_,_,_,rfl,rfl,SqT.of hB.ask.tab.tup,rfl,rfl,_,rfl,aO (fun c=>?_) fun c=>?_⟩
 ·have c:V.int (at0:Int)=V.int (p.ns.length:Int):=of_decide_eq_true c
  injection c with c
  exact q _ ss H (.inl ⟨rfl,cF.empty (by omega)⟩) (hB.self.le (by decide))
 have c:(at0:Int) ≠ (p.ns.length:Int):=fun z=>c (decide_eq_true (congrArg V.int z))
 have ef:(at0:Int) / 32=((at0 / 32:Nat):Int):=by omega
 refine ⟨_,rfl,_,_,rfl,rfl,⟨by decide,by decide⟩,?_⟩
 refine ⟨_,rfl,_,rfl,_,rfl,_,rfl,_,rfl,p.t,p.L,p.ah,p.ns,ss,_,at0 / 32,at0,g,?_,hB.ask,by omega,by omega,fun x ss1 H1 hx wr1 s1=>?_⟩
 ·rw [← ef]
  rfl
 have d1:=hB.look wr1 s1
 have l1:=wr1.len
 have hB1:=hB.did d1 (by omega)
 rw [show max at0 (32 * (at0 / 32))=at0 from by omega] at hx
 rcases hx with ⟨rfl,hno⟩ | ⟨k,rfl,hf⟩
 rotate_left
 ·refine ⟨_,rfl,_,rfl,fK ⟨_,rfl,q _ ss1 H1 (.inr ⟨k,rfl,hf.wider (by unfold wide; omega)⟩) (d1.le (by decide))⟩⟩
 refine ⟨_,rfl,_,rfl,cW ?_⟩
 obtain ⟨e1,e2⟩:=hB.lenL
 refine ⟨_,rfl,p.t,p.ah,p.ns,_,rfl,hB1.ask.tab,?_⟩
 refine ⟨_,rfl,p.t,p.nd,_,_,p.xs,rfl,hB1.ask.tab.tup,hB1.nds,hB1.tab,fun fh H5 nf b5 hT5 qu=>?_⟩
 have d5:=d1.trans (hB1.made b5 hT5)
 have hB5:=hB.did d5 (by omega)
 have ev:[V.int ((many p.ns.length:Nat):Int),.ref fh,.int ((at0:Int) / 32 + 1),.int g]=[.int (p.lows.length:Int),.ref fh,.int ((at0 / 32 + 1:Nat):Int),.int g]:=by
  rw [e1,ef]
  rfl
 have hle:at0 / 32 + 1≤many p.ns.length:=by
  unfold many
  omega
 refine ⟨_,rfl,_,_,rfl,rfl,_,rfl,fh,p.nd,p.xs,p.lows,p.S,at0 / 32 + 1,g,ev,qu,hB.sz,hB.heap,by omega,by omega,fun x H6 s6 hx=>?_⟩
 have d6:=d5.same s6
 have hB6:=hB5.same s6
 have hno1:cF p.ns at0 (32 * (at0 / 32 + 1)) g∨32 * (at0 / 32 + 1) > p.ns.length:=by
  rcases Nat.lt_or_ge p.ns.length (32 * (at0 / 32 + 1)) with z | z
  ·exact .inr z
  ·rw [show 32 * (at0 / 32) + wide p.ns.length (at0 / 32)=32 * (at0 / 32 + 1) from by unfold wide; omega] at hno
   exact .inl hno
 rcases hx with ⟨rfl,hall⟩ | ⟨i,rfl,h3,h4,⟨c5,h5,h5'⟩,h6⟩
 ·refine ⟨_,rfl,_,rfl,fK (q _ ss1 H6 (.inl ⟨rfl,?_⟩) (d6.le (by decide)))⟩
  rcases hno1 with hno1 | z
  ·refine hno1.join (hB.low.none (i:=at0 / 32 + 1) (j:=many p.ns.length) (fun t cc t1 t2 e=>hall t cc t1 e) ?_ (Nat.le_refl _))
   unfold many
   omega
  ·rw [show 32 * (at0 / 32) + wide p.ns.length (at0 / 32)=p.ns.length from by unfold wide; omega] at hno
   exact hno
 rw [e1] at h4
 have hi:32 * i < p.ns.length:=by
  unfold many at h4
  omega
 have hno1':cF p.ns at0 (32 * (at0 / 32 + 1)) g:=by
  rcases hno1 with z | z
  ·exact z
  ·omega
 refine ⟨_,rfl,_,rfl,cW ?_⟩
 refine ⟨_,rfl,_,rfl,_,rfl,_,rfl,_,rfl,p.t,p.L,p.ah,p.ns,ss1,_,i,at0,g,rfl,hB6.ask,by omega,hi,fun x ss7 H7 hx wr7 s7=>?_⟩
 have d7:=d6.trans (hB6.look wr7 s7)
 rw [show max at0 (32 * i)=32 * i from by omega,show 32 * i + wide p.ns.length i=min (32 * i + 32) p.ns.length from by unfold wide; omega] at hx
 have hno2:cF p.ns at0 (32 * i) g:=hno1'.join (hB.low.none (i:=at0 / 32 + 1) (j:=i) (fun t cc t1 t2 e=>h6 t cc t1 (by rw [e1]; omega) (by rw [if_pos rfl]; exact t2) e) (Nat.le_refl _) (by omega))
 rcases hx with ⟨rfl,hn⟩ | ⟨k,rfl,hf⟩
 ·exact absurd hn (hB.low.some h5 h5')
 ·refine q _ ss7 H7 (.inr ⟨k,rfl,?_⟩) d7
  exact ((dJ.after hno2 hf (by omega)).wider (by omega))
def sW:Sp:=fun vs H Q _ => ∃ (t:Addr) (L:LK) (ah:Addr) (ns ss:List Int) (rest:List V) (j up:Nat) (g:Int),vs=[.ref t,.ref L.f,.int (j:Int),.int (up:Int),.int g]∧Ask H t L ah ns ss rest∧ss.length < 1000∧32 * j < up∧up≤ns.length ∧
 ∀ x ss' H',((x=.non∧cF ns (32 * j) (32 * j + wide up j) g) ∨ ∃ k:Nat,x=.int (k:Int)∧iG ns (32 * j) (32 * j + wide up j) g k)→cI L.all.length 1 ss ss'→aR (L.put H ss') H'→Q x H'
theorem jZ (T:Tx K mg a):aX P w K mg base CX0 5 a.f_last_within a.fd_last_within ["tables", "look", "number", "upto", "goal"] sW:=by
 refine T.D_last_within.F.ok kI (fun vs H Q E h=>?_) (fun cdv A outer s H vs Q E hr h=>?_)
 ·obtain ⟨t,L,ah,ns,ss,rest,j,up,g,rfl,_⟩:=h
  rfl
 obtain ⟨t,L,ah,ns,ss,rest,j,up,g,rfl,hA,hls,hj,hup,q⟩:=h
 refine ⟨_,(aj (aG (i:=5) kI.nd rfl (Or.inl rfl) (aD T.D_end_within (fH T) (by decide) hr aH rfl (aa (pv 2) (aa (pv 3) ao))))
  (aq (aB (aD T.D_place_of_bit (jQ T) (by decide) hr aH rfl (aa (pv 2) (aa (aD T.D_last_low_in (sJ T) (by decide) hr aH rfl (aa (dg ((dR T).mono (by decide)) hr (i:=1) rfl (aa (pv 2) ao)) (aa au (aa (pv 5) (aa (aF bB (pv 4) (aD T.D_base_of (jt T) (by decide) hr aH rfl (aa (pv 0) (aa (pv 2) ao)))) ao))))) ao)))))),?_⟩
 obtain ⟨o,fd,e1,g1⟩:=hA.asks.look.fn
 have hm:j < many ns.length:=by
  unfold many
  omega
 have hw:wide up j≤32:=by
  unfold wide
  omega
 refine ⟨_,rfl,_,rfl,j,up,rfl,Nat.le_of_lt hj,?_⟩
 refine ⟨_,rfl,L.f,o,fd,rfl,e1,g1,_,rfl,e1,L,ss,j,_,rfl,rfl,hA.asks,hls,hA.blk _ (by first | exact hm | omega),?_⟩
 have hA2:=hA.more (tt:=ss ++ [((L.off + j:Nat):Int)]) (by rw [List.length_append,List.length_singleton]; omega)
 refine ⟨_,rfl,_,rfl,_,rfl,_,rfl,t,ah,ns,rest,j,rfl,hA2.tab,Nat.le_of_lt hm,_,_,rfl,rfl,?_⟩
 have w:=hA.wr hm
 refine ⟨bK ns j,0,wide up j,g - ht ns (32 * j),rfl,hw,fun H' k sm hd hle=>?_,fun H' sm hno=>?_⟩
 ·exact ⟨j,_,rfl,.inr ⟨k,rfl,q _ _ H' (.inr ⟨_,rfl,last_within hA.bits hw hd hle⟩) w sm⟩⟩
 ·exact ⟨j,_,rfl,.inl ⟨rfl,q _ _ H' (.inl ⟨rfl,qw hA.bits hw hno⟩) w sm⟩⟩
def o7 (Ph:Addr):Sp:=fun vs H Q _ => ∃ (p:BP) (ss:List Int) (at0:Nat) (g:Int),vs=[.ref p.t,.ref p.L.f,.int ((at0:Int) - 1),.int g]∧Brk H Ph p ss∧ss.length≤990∧at0≤p.ns.length + 1 ∧
 ∀ x ss' H',((x=.non∧cF p.ns 0 (at0 - 1) g) ∨ ∃ k:Nat,x=.int (k:Int)∧iG p.ns 0 (at0 - 1) g k)→Did H H' Ph p.L 2 ss ss'→Q x H'
theorem oX (T:Tx K mg a) (B:Bs mg base a):aX P w K mg base CX0 6 a.f_last_low_upto a.fd_last_low_upto ["tables", "look", "upto", "goal"] (o7 a.tP_heap_look):=by
 refine T.D_last_low_upto.F.ok dq (fun vs H Q E h=>?_) (fun cdv A outer s H vs Q E hr h=>?_)
 ·obtain ⟨p,ss,at0,g,rfl,_⟩:=h
  rfl
 obtain ⟨p,ss,at0,g,rfl,hB,hls,h1,q⟩:=h
 refine ⟨_,(aj (aW (aK ji (pv 2) au (aM _)) (aq (aB cG)) aL)
  (aj (aG (i:=4) dq.nd rfl (Or.inl rfl) (aF cu (aF bB (pv 2) au) (bh (v:=.int 32) rfl T.c_BLOCK_BITS ⟨_,rfl⟩)))
  (aj (aG (i:=5) dq.nd rfl (Or.inl rfl) (aD T.D_last_within (jZ T) (by decide) hr aH rfl (aa (pv 0) (aa (pv 1) (aa (pv 4) (aa (pv 2) (aa (pv 3) ao)))))))
  (aj (aW (gP (vX (pv 5))) (aq (aB (pv 5))) aL)
  (aj (aG (i:=6) dq.nd rfl (Or.inl rfl) (aD T.D_last_at_most (qU T) (by decide) hr aH rfl (aa (aD T.D_block_count (gK T) (by decide) hr aH rfl (aa (pv 0) ao)) (aa (aD T.D_heap_look (jB T B) (by decide) hr aH rfl (aa (pv 0) ao)) (aa (pv 4) (aa (pv 3) ao))))))
  (aj (aW (gP (jG (pv 6))) (aq (aB cG)) aL)
  (aq (aB (aD T.D_last_within (jZ T) (by decide) hr aH rfl (aa (pv 0) (aa (pv 1) (aa (pv 6) (aa (pv 2) (aa (pv 3) ao)))))))))))))),?_⟩
 have hlen:=hB.ask.len
 refine ⟨_,rfl,_,_,rfl,rfl,_,rfl,aO (fun c=>?_) fun c=>?_⟩
 ·have c:(at0:Int) - 1 < 1:=of_decide_eq_true c
  exact q _ ss H (.inl ⟨rfl,cF.empty (by omega)⟩) (hB.self.le (by decide))
 have c : ¬ (at0:Int) - 1 < 1:=fun z=>c (decide_eq_true z)
 obtain ⟨up,rfl⟩ : ∃ up,at0=up + 1:=⟨at0 - 1,by omega⟩
 rw [Nat.add_sub_cancel] at q
 have eu:((up + 1:Nat):Int) - 1=(up:Int):=by omega
 have ef:(((up + 1:Nat):Int) - 1 - 1) / 32=(((up - 1) / 32:Nat):Int):=by omega
 refine ⟨_,rfl,_,_,rfl,rfl,_,_,rfl,rfl,⟨by decide,by decide⟩,?_⟩
 refine ⟨_,rfl,_,rfl,_,rfl,_,rfl,_,rfl,p.t,p.L,p.ah,p.ns,ss,_,(up - 1) / 32,up,g,?_,hB.ask,by omega,by omega,by omega,fun x ss1 H1 hx wr1 s1=>?_⟩
 ·rw [← ef,← eu]
  rfl
 have d1:=hB.look wr1 s1
 have l1:=wr1.len
 have hB1:=hB.did d1 (by omega)
 rw [show 32 * ((up - 1) / 32) + wide up ((up - 1) / 32)=up from by unfold wide; omega] at hx
 rcases hx with ⟨rfl,hno⟩ | ⟨k,rfl,hf⟩
 rotate_left
 ·refine ⟨_,rfl,_,rfl,fK ⟨_,rfl,q _ ss1 H1 (.inr ⟨k,rfl,hf.wider (by omega)⟩) (d1.le (by decide))⟩⟩
 refine ⟨_,rfl,_,rfl,cW ?_⟩
 obtain ⟨e1,e2⟩:=hB.lenL
 refine ⟨_,rfl,p.t,p.ah,p.ns,_,rfl,hB1.ask.tab,?_⟩
 refine ⟨_,rfl,p.t,p.nd,_,_,p.xs,rfl,hB1.ask.tab.tup,hB1.nds,hB1.tab,fun fh H5 nf b5 hT5 qu=>?_⟩
 have d5:=d1.trans (hB1.made b5 hT5)
 have hB5:=hB.did d5 (by omega)
 have ev:[V.int ((many p.ns.length:Nat):Int),.ref fh,.int ((((up + 1:Nat):Int) - 1 - 1) / 32),.int g]=[.int (p.lows.length:Int),.ref fh,.int (((up - 1) / 32:Nat):Int),.int g]:=by
  rw [e1,ef]
 have hle:(up - 1) / 32≤many p.ns.length:=by
  unfold many
  omega
 refine ⟨_,rfl,_,rfl,fh,p.nd,p.xs,p.lows,p.S,(up - 1) / 32,g,ev,qu,hB.sz,hB.heap,by omega,by omega,fun x H6 s6 hx=>?_⟩
 have d6:=d5.same s6
 have hB6:=hB5.same s6
 rcases hx with ⟨rfl,hall⟩ | ⟨i,rfl,h3,h4,⟨c5,h5,h5'⟩,h6⟩
 ·refine ⟨_,rfl,_,rfl,fK (q _ ss1 H6 (.inl ⟨rfl,?_⟩) (d6.le (by decide)))⟩
  have:=hB.low.none (i:=0) (j:=(up - 1) / 32) (b:=32 * ((up - 1) / 32)) (fun t cc t1 t2 e=>hall t cc t2 e) (Nat.le_refl _) (by omega)
  exact this.join hno
 refine ⟨_,rfl,_,rfl,cW ?_⟩
 refine ⟨_,rfl,_,rfl,_,rfl,_,rfl,_,rfl,p.t,p.L,p.ah,p.ns,ss1,_,i,up,g,?_,hB6.ask,by omega,by omega,by omega,fun x ss7 H7 hx wr7 s7=>?_⟩
 ·rw [← eu]
  rfl
 have d7:=d6.trans (hB6.look wr7 s7)
 rw [show 32 * i + wide up i=32 * (i + 1) from by unfold wide; omega] at hx
 have hno2:cF p.ns (32 * (i + 1)) up g:=(hB.low.none (i:=i + 1) (j:=(up - 1) / 32) (b:=32 * ((up - 1) / 32)) (fun t cc t1 t2 e=>h6 t cc (Nat.zero_le _) t2 (by rw [if_neg (by decide)]; omega) e) (Nat.le_refl _) (by omega)).join hno
 rcases hx with ⟨rfl,hn⟩ | ⟨k,rfl,hf⟩
 ·refine absurd ?_ (hB.low.some h5 h5')
  rw [show min (32 * i + 32) p.ns.length=32 * (i + 1) from by omega]
  exact hn
 ·exact q _ ss7 H7 (.inr ⟨k,rfl,(iG.ahead hno2 hf (by omega)).wider (by omega)⟩) d7
def v5 (Ph:Addr):Sp:=fun vs H Q _ => ∃ (p:BP) (ss:List Int) (at0:Nat) (g:Int),vs=[.ref p.t,.ref p.L.f,.int (at0:Int),.int g]∧Brk H Ph p ss∧ss.length≤990∧at0≤p.ns.length ∧
 ∀ x ss' H',((x=.non∧Eh p.ns at0 g) ∨ ∃ k:Nat,x=.int (k:Int)∧oZ p.ns at0 g k)→Did H H' Ph p.L 2 ss ss'→Q x H'
theorem nj (T:Tx K mg a) (B:Bs mg base a):aX P w K mg base CX0 7 a.f_low_ahead a.fd_low_ahead ["tables", "look", "at", "goal"] (v5 a.tP_heap_look):=by
 refine T.D_low_ahead.F.ok oA (fun vs H Q E h=>?_) (fun cdv A outer s H vs Q E hr h=>?_)
 ·obtain ⟨p,ss,at0,g,rfl,_⟩:=h
  rfl
 obtain ⟨p,ss,at0,g,rfl,hB,hls,h1,q⟩:=h
 refine ⟨_,(aj (bc (aD T.D_check_place (eX T) (by decide) hr aH rfl (aa (pv 2) (aa (aZ bx (pv 0) au (fun _ _=>rfl)) ao))))
  (aj (aG (i:=4) oA.nd rfl (Or.inl rfl) (aD T.D_last_low_upto (oX T B) (by decide) hr aH rfl (aa (pv 0) (aa (pv 1) (aa (aF bB (pv 2) au) (aa (pv 3) ao))))))
  (aj (aW (PW.pt (ju (gP (jG (pv 4))) (ju (aK dF (pv 2) au (aM _)) (gY (aK xn (pv 3) au (aM _)))))) (aq (aB au)) aL)
  (aq (aB (pv 4)))))),?_⟩
 refine ⟨_,rfl,_,rfl,p.t,_,_,_,rfl,rfl,SqT.of hB.ask.tab.tup,rfl,_,_,rfl,by omega,by omega,?_⟩
 refine ⟨_,rfl,_,rfl,_,rfl,_,_,rfl,rfl,_,rfl,p,ss,at0,g,rfl,hB,hls,by omega,fun x ss1 H1 hx d1=>?_⟩
 rcases hx with ⟨rfl,hno⟩ | ⟨k,rfl,f1,f2,f3,f4⟩
 rotate_left
 ·refine ⟨_,rfl,_,rfl,cW (cW ⟨_,rfl,q _ ss1 H1 (.inr ⟨k,rfl,by omega,f3,fun i i1 i2=>f4 i i1 (by omega)⟩) d1⟩)⟩
 refine ⟨_,rfl,_,rfl,fK ?_⟩
 refine ⟨_,rfl,_,_,rfl,rfl,_,rfl,aO (fun c1=>?_) fun c1=>cW ⟨_,rfl,q _ ss1 H1 (.inl ⟨rfl,fun i hi=>?_⟩) d1⟩⟩
 rotate_left
 ·have c1 : ¬ (0:Int) < (at0:Int):=fun z=>c1 (decide_eq_true z)
  omega
 have c1:(0:Int) < (at0:Int):=of_decide_eq_true c1
 refine ⟨_,rfl,_,_,rfl,rfl,_,rfl,aO (fun c2=>?_) fun c2=>⟨_,rfl,q _ ss1 H1 (.inl ⟨rfl,fun i hi=>?_⟩) d1⟩⟩
 ·have c2:(0:Int)≤g:=of_decide_eq_true c2
  have:=q _ ss1 H1 (.inr ⟨0,rfl,by omega,by rw [eU]; exact c2,fun i i1 i2=>hno i i1 (by omega)⟩) d1
  exact this
 ·have c2 : ¬ (0:Int)≤g:=fun z=>c2 (decide_eq_true z)
  rcases Nat.eq_zero_or_pos i with rfl | h0
  ·rw [eU]
   omega
  ·exact hno i h0 (by omega)
theorem u6 {b:Int} {n st:Nat} {x:Int}:x∈(nets b n).drop st ↔ ∃ k,st < k∧k≤n∧x=net b k:=by
 constructor
 ·intro h
  obtain ⟨i,hi⟩:=List.getElem?_of_mem h
  rw [List.getElem?_drop] at hi
  have hl:=(List.getElem?_eq_some_iff.mp hi).1
  rw [cQ] at hl
  rw [nR hl] at hi
  cases hi
  exact ⟨st + i + 1,by omega,by omega,rfl⟩
 ·rintro ⟨k,h1,h2,rfl⟩
  refine List.mem_of_getElem? (i:=k - 1 - st) ?_
  rw [List.getElem?_drop,show st + (k - 1 - st)=k - 1 from by omega,nR (by omega),show k - 1 + 1=k from by omega]
theorem Af {ns:List Int} (h:aU ns) {j st n:Nat} {M:Int} (hn:n≤32) (hM:rE M ((nets (bK ns j) n).drop st)):ux ns (32 * j + st) (32 * j + n) (ht ns (32 * j) + M):=by
 obtain ⟨h1,h2⟩:=hM
 constructor
 ·obtain ⟨k,k1,k2,rfl⟩:=u6.mp h1
  exact ⟨32 * j + k,by omega,by omega,(iW h j k (by omega)).symm⟩
 ·intro k k1 k2
  have:=h2 _ (u6.mpr ⟨k - 32 * j,by omega,by omega,rfl⟩)
  have e:=iW h j (k - 32 * j) (by omega)
  rw [show 32 * j + (k - 32 * j)=k from by omega] at e
  omega
def qd:Sp:=fun vs H Q _ => ∃ (t:Addr) (L:LK) (ah:Addr) (ns ss:List Int) (rest:List V) (j at0 up:Nat),vs=[.ref t,.ref L.f,.int (j:Int),.int (at0:Int),.int (up:Int)]∧Ask H t L ah ns ss rest∧ss.length < 1000∧32 * j < up∧up≤ns.length∧at0 < 32 * j + wide up j ∧
 ∀ m ss' H',ux ns (max at0 (32 * j)) (32 * j + wide up j) m→cI L.all.length 1 ss ss'→aR (L.put H ss') H'→Q (.int m) H'
theorem iZ (T:Tx K mg a):aX P w K mg base CX0 4 a.f_lowest_within a.fd_lowest_within ["tables", "look", "number", "at", "upto"] qd:=by
 refine T.D_lowest_within.F.ok iV (fun vs H Q E h=>?_) (fun cdv A outer s H vs Q E hr h=>?_)
 ·obtain ⟨t,L,ah,ns,ss,rest,j,at0,up,rfl,_⟩:=h
  rfl
 obtain ⟨t,L,ah,ns,ss,rest,j,at0,up,rfl,hA,hls,hj,hup,hat,q⟩:=h
 refine ⟨_,(aj (aG (i:=5) iV.nd rfl (Or.inl rfl) (aD T.D_nets_of (jo T) (by decide) hr aH rfl (aa (dg ((dR T).mono (by decide)) hr (i:=1) rfl (aa (pv 2) ao)) (aa (aD T.D_end_within (fH T) (by decide) hr aH rfl (aa (pv 2) (aa (pv 4) ao))) ao))))
  (aq (aB (aF bj (aD T.D_base_of (jt T) (by decide) hr aH rfl (aa (pv 0) (aa (pv 2) ao))) (aY (uU rfl) rfl T.b_min Tw.mZ (aa (eF gU (pv 5) (dI (aD T.D_start_within (jN T) (by decide) hr aH rfl (aa (pv 2) (aa (pv 3) ao)))) lD) ao)))))),?_⟩
 obtain ⟨o,fd,e1,g1⟩:=hA.asks.look.fn
 have hm:j < many ns.length:=by
  unfold many
  omega
 have hw:1≤wide up j∧wide up j≤32:=by
  unfold wide
  omega
 refine ⟨L.f,o,fd,rfl,e1,g1,_,rfl,e1,L,ss,j,_,rfl,rfl,hA.asks,hls,hA.blk _ (by first | exact hm | omega),?_⟩
 refine ⟨_,rfl,_,rfl,j,up,rfl,Nat.le_of_lt hj,?_⟩
 refine ⟨_,_,rfl,by omega,by omega,fun r H2 hr2 s2 x2=>?_⟩
 rw [Int.toNat_natCast] at x2
 have hA2:=(hA.more (tt:=ss ++ [((L.off + j:Nat):Int)]) (by rw [List.length_append,List.length_singleton]; omega)).same s2
 refine ⟨_,rfl,_,rfl,t,ah,ns,rest,j,rfl,hA2.tab,Nat.le_of_lt hm,?_⟩
 refine ⟨_,rfl,_,rfl,_,rfl,j,at0,rfl,_,rfl,r,_,rfl,SqL.of x2,fun c hc=>?_⟩
 have ec:gM ((nets (bK ns j) (wide up j)).map V.int) (some ((at0 - 32 * j:Nat):Int)) none=((nets (bK ns j) (wide up j)).drop (at0 - 32 * j)).map V.int:=zb _ _
 refine ⟨c,(nets (bK ns j) (wide up j)).drop (at0 - 32 * j),rfl,SqL.of (by rw [← ec]; exact az),?_,fun M hM=>⟨_,_,rfl,rfl,?_⟩⟩
 ·rw [List.length_drop,cQ]
  omega
 have:=Af hA.bits hw.2 hM
 rw [show 32 * j + (at0 - 32 * j)=max at0 (32 * j) from by omega] at this
 exact q _ _ _ this (hA.wr hm) (s2.trans (aA hc _))
def De (Ph:Addr):Sp:=fun vs H Q _ => ∃ (p:BP) (ss:List Int) (at0 up:Nat),vs=[.ref p.t,.ref p.L.f,.int (at0:Int),.int (up:Int)]∧Brk H Ph p ss∧ss.length≤990∧at0 < up∧up≤p.ns.length ∧
 ∀ m ss' H',ux p.ns at0 up m→Did H H' Ph p.L 2 ss ss'→Q (.int m) H'
theorem DQ (T:Tx K mg a) (B:Bs mg base a):aX P w K mg base CX0 5 a.f_lowest a.fd_lowest ["tables", "look", "at", "upto"] (De a.tP_heap_look):=by
 refine T.D_lowest.F.ok lF (fun vs H Q E h=>?_) (fun cdv A outer s H vs Q E hr h=>?_)
 ·obtain ⟨p,ss,at0,up,rfl,_⟩:=h
  rfl
 obtain ⟨p,ss,at0,up,rfl,hB,hls,h1,h2,q⟩:=h
 refine ⟨_,(aj (aW (j6 (u9 dU ji dU au (pv 2) (pv 3) (aZ bx (pv 0) au (fun _ _=>rfl)))) (aq bU) aL)
  (aj (aG (i:=4) lF.nd rfl (Or.inl rfl) (aF cu (pv 2) (bh (v:=.int 32) rfl T.c_BLOCK_BITS ⟨_,rfl⟩)))
  (aj (aG (i:=5) lF.nd rfl (Or.inl rfl) (aF cu (aF bB (pv 3) au) (bh (v:=.int 32) rfl T.c_BLOCK_BITS ⟨_,rfl⟩)))
  (aj (aG (i:=6) lF.nd rfl (Or.inl rfl) (bT (aa (aD T.D_lowest_within (iZ T) (by decide) hr aH rfl (aa (pv 0) (aa (pv 1) (aa (pv 4) (aa (pv 2) (aa (pv 3) ao)))))) ao)))
  (aj (aW (aK dF (pv 5) (pv 4) (aM _)) (aq (bc (eY PySem.F.plainAttrs_list PySem.F.slot_list_append PySem.F.type_list_append bH (pv 6) (aa (aD T.D_lowest_within (iZ T) (by decide) hr aH rfl (aa (pv 0) (aa (pv 1) (aa (pv 5) (aa (pv 2) (aa (pv 3) ao)))))) ao)))) aL)
  (aj (aW (aK dF (pv 5) (aF bj (pv 4) au) (aM _)) (aq (bc (eY PySem.F.plainAttrs_list PySem.F.slot_list_append PySem.F.type_list_append bH (pv 6) (aa (aD T.D_least_of (yF T) (by decide) hr aH rfl (aa (aD T.D_block_count (gK T) (by decide) hr aH rfl (aa (pv 0) ao)) (aa (aD T.D_heap_look (jB T B) (by decide) hr aH rfl (aa (pv 0) ao)) (aa (aF bj (pv 4) au) (aa (pv 5) ao))))) ao)))) aL)
  (aq (aB (aY (uU rfl) rfl T.b_min Tw.mZ (aa (pv 6) ao)))))))))),?_⟩
 have hlen:=hB.ask.len
 refine ⟨_,rfl,_,_,rfl,rfl,_,rfl,aO (fun _=>?_) fun z=>absurd (decide_eq_true (show (0:Int)≤(at0:Int) from by omega)) z⟩
 refine ⟨_,rfl,_,_,rfl,rfl,_,rfl,aO (fun _=>?_) fun z=>absurd (decide_eq_true (show (at0:Int) < (up:Int) from by omega)) z⟩
 refine ⟨_,rfl,p.t,_,_,_,rfl,rfl,SqT.of hB.ask.tab.tup,rfl,_,_,rfl,rfl,_,rfl,?_⟩
 rw [decide_eq_true (show (up:Int)≤(p.ns.length:Int) from by omega)]
 refine cW ?_
 refine ⟨_,rfl,_,_,rfl,rfl,⟨by decide,by decide⟩,?_⟩
 refine ⟨_,rfl,_,_,rfl,rfl,_,_,rfl,rfl,⟨by decide,by decide⟩,?_⟩
 have ef:(at0:Int) / 32=((at0 / 32:Nat):Int):=by omega
 have el:((up:Int) - 1) / 32=(((up - 1) / 32:Nat):Int):=by omega
 have w1:at0 < 32 * (at0 / 32) + wide up (at0 / 32):=by
  unfold wide
  omega
 refine ⟨_,rfl,_,rfl,_,rfl,_,rfl,_,rfl,p.t,p.L,p.ah,p.ns,ss,_,at0 / 32,at0,up,?_,hB.ask,by omega,by omega,h2,w1,fun m1 ss1 H1 hm1 wr1 s1=>?_⟩
 ·rw [← ef]
  rfl
 have d1:=hB.look wr1 s1
 have l1:=wr1.len
 have hB1:=hB.did d1 (by omega)
 refine ⟨(by show 1≤sizeLine; decide),fun r hr'=>?_⟩
 have s2:=aA hr' (.lst [.int m1])
 have d2:=d1.same s2
 have hB2:=hB1.same s2
 have xr2:upd H1 r (.lst [.int m1]) r=some (.lst ([m1].map V.int)):=az
 have nr:p.L.wr ≠ some r:=fun z=>by rw [d1.seen r z] at hr'; cases hr'
 generalize upd H1 r (.lst [.int m1])=H2 at *
 refine ⟨_,rfl,_,rfl,_,_,rfl,rfl,_,rfl,aO (fun c1=>?_) fun c1=>?_⟩
 rotate_left
 ·have c1 : ¬ (at0:Int) / 32 < ((up:Int) - 1) / 32:=fun z=>c1 (decide_eq_true z)
  refine ⟨_,rfl,_,rfl,_,_,rfl,rfl,_,_,rfl,rfl,_,rfl,aO (fun c2=>?_) fun c2=>?_⟩
  ·have c2:(at0:Int) / 32 + 1 < ((up:Int) - 1) / 32:=of_decide_eq_true c2
   omega
  refine ⟨_,rfl,r,[m1],rfl,SqL.of xr2,Nat.succ_pos _,fun M hM=>q M ss1 H2 ?_ (d2.le (by decide))⟩
  have:M=m1:=List.mem_singleton.mp hM.1
  subst this
  rw [show max at0 (32 * (at0 / 32))=at0 from by omega,show 32 * (at0 / 32) + wide up (at0 / 32)=up from by unfold wide; omega] at hm1
  exact hm1
 have c1:(at0:Int) / 32 < ((up:Int) - 1) / 32:=of_decide_eq_true c1
 have w2:at0 < 32 * ((up - 1) / 32) + wide up ((up - 1) / 32):=by
  unfold wide
  omega
 refine ⟨_,rfl,.inl ⟨rfl,_,SqL.of xr2⟩,_,rfl,_,rfl,_,rfl,_,rfl,_,rfl,p.t,p.L,p.ah,p.ns,ss1,_,(up - 1) / 32,at0,up,?_,hB2.ask,by omega,by omega,h2,w2,fun m2 ss3 H3 hm2 wr3 s3=>?_⟩
 ·rw [← el]
  rfl
 have d3:=hB2.look wr3 s3
 have l3:=wr3.len
 have hB3:=hB2.did d3 (by omega)
 have dA:=d2.trans d3
 have nPr:r ≠ a.tP_heap_look:=TabAt.ne hB2.tab xr2 nofun
 have xr3:=d3.kp _ _ xr2 nPr nr
 refine ⟨r,_,_,rfl,rfl,xr3,(by show 1 < sizeLine; decide),?_⟩
 have hr0:=d1.free hr'
 have d4:Did H (upd H3 r (.lst ([m1].map V.int ++ [.int m2]))) a.tP_heap_look p.L 2 ss ss3:=dA.set hr0 xr3 nr
 have xr4:upd H3 r (.lst ([m1].map V.int ++ [.int m2])) r=some (.lst ([m1,m2].map V.int)):=az
 have hB4:=hB.did d4 (by omega)
 generalize upd H3 r (.lst ([m1].map V.int ++ [.int m2]))=H4 at *
 rw [show max at0 (32 * (at0 / 32))=at0 from by omega,show 32 * (at0 / 32) + wide up (at0 / 32)=32 * (at0 / 32 + 1) from by unfold wide; omega] at hm1
 rw [show max at0 (32 * ((up - 1) / 32))=32 * ((up - 1) / 32) from by omega,show 32 * ((up - 1) / 32) + wide up ((up - 1) / 32)=up from by unfold wide; omega] at hm2
 refine ⟨_,rfl,_,rfl,_,_,rfl,rfl,_,_,rfl,rfl,_,rfl,aO (fun c2=>?_) fun c2=>?_⟩
 rotate_left
 ·have c2 : ¬ (at0:Int) / 32 + 1 < ((up:Int) - 1) / 32:=fun z=>c2 (decide_eq_true z)
  refine ⟨_,rfl,r,[m1,m2],rfl,SqL.of xr4,Nat.succ_pos _,fun M hM=>q M ss3 H4 ?_ d4⟩
  obtain ⟨M1,M2⟩:=hM
  rw [show at0 / 32 + 1=(up - 1) / 32 from by omega] at hm1
  refine hm1.join2 hm2 (by omega) (by omega) ?_ (M2 m1 (by simp)) (M2 m2 (by simp))
  simpa using M1
 have c2:(at0:Int) / 32 + 1 < ((up:Int) - 1) / 32:=of_decide_eq_true c2
 obtain ⟨e1,e2⟩:=hB.lenL
 refine ⟨_,rfl,.inl ⟨rfl,_,SqL.of xr4⟩,_,rfl,p.t,p.ah,p.ns,_,rfl,hB4.ask.tab,?_⟩
 refine ⟨_,rfl,p.t,p.nd,_,_,p.xs,rfl,hB4.ask.tab.tup,hB4.nds,hB4.tab,fun fh H5 nf b5 hT5 qu=>?_⟩
 have d5:=d4.trans (hB4.made b5 hT5)
 have xr5:=b5 _ _ xr4 (TabAt.ne hB4.tab xr4 nofun)
 have ev:[V.int ((many p.ns.length:Nat):Int),.ref fh,.int ((at0:Int) / 32 + 1),.int (((up:Int) - 1) / 32)]=[.int (p.lows.length:Int),.ref fh,.int ((at0 / 32 + 1:Nat):Int),.int (((up - 1) / 32:Nat):Int)]:=by
  rw [e1,el,ef]
  rfl
 have hle:(up - 1) / 32≤many p.ns.length:=by
  unfold many
  omega
 refine ⟨_,rfl,_,_,rfl,rfl,_,rfl,fh,p.nd,p.xs,p.lows,p.S,at0 / 32 + 1,(up - 1) / 32,ev,qu,hB.sz,hB.heap,by omega,by omega,by omega,fun M3 H6 hM3 s6=>?_⟩
 have d6:=d5.same s6
 have xr6:=s6 _ _ xr5
 refine ⟨r,_,_,rfl,rfl,xr6,(by show 2 < sizeLine; decide),?_⟩
 have d7:Did H (upd H6 r (.lst ([m1,m2].map V.int ++ [.int M3]))) a.tP_heap_look p.L (2 + 0) ss ss3:=d6.set hr0 xr6 nr
 have hm3:=hB.low.minH (show at0 / 32 + 1 < (up - 1) / 32 by omega) (by omega) hM3.1 hM3.2
 refine ⟨_,rfl,r,[m1,m2,M3],rfl,SqL.of az,Nat.succ_pos _,fun M hM=>q M ss3 _ ?_ d7⟩
 obtain ⟨M1,M2⟩:=hM
 have a1:=M2 m1 (by simp)
 have a2:=M2 m2 (by simp)
 have a3:=M2 M3 (by simp)
 have hor:M=m1∨M=m2∨M=M3:=by simpa using M1
 refine ux.join2 (ux.join2 hm1 hm3 (by omega) (by omega) (M:=if m1≤M3 then m1 else M3) ?_ ?_ ?_) hm2 (by omega) (by omega) ?_ ?_ a2
 ·split <;> simp
 ·split <;> omega
 ·split <;> omega
 ·split <;> omega
 ·split <;> omega
def o5:Sp:=fun vs H Q E => ∃ (t:Addr) (L:LK) (ah:Addr) (ns ss:List Int) (rest:List V) (at0:Nat) (b:Int),vs=[.ref t,.ref L.f,.int (at0:Int),.int b]∧Ask H t L ah ns ss rest∧ss.length < 1000∧ns[at0]?=some b ∧
 ∀ ss' H',cI L.all.length 1 ss ss'→aR (L.put H ss') H'→Q .non H'
theorem fB (T:Tx K mg a):aX P w K mg base CX0 4 a.f_check_bracket a.fd_check_bracket ["tables", "look", "at", "bit"] o5:=by
 refine T.D_check_bracket.F.ok pG (fun vs H Q E h=>?_) (fun cdv A outer s H vs Q E hr h=>?_)
 ·obtain ⟨t,L,ah,ns,ss,rest,at0,b,rfl,_⟩:=h
  rfl
 obtain ⟨t,L,ah,ns,ss,rest,at0,b,rfl,hA,hls,hb,q⟩:=h
 refine ⟨_,(aq (aW (aK yS (aD T.D_bit_at (iU T) (by decide) hr aH rfl (aa (pv 0) (aa (pv 1) (aa (pv 2) ao)))) (pv 3) (aM _)) (aq bU) aL)),?_⟩
 exact ⟨_,rfl,_,rfl,_,rfl,t,L,ah,ns,ss,rest,at0,b,rfl,hA,hls,hb,fun ss' H' w sm=>⟨_,rfl,rfl,_,rfl,uZ rfl (q ss' H' w sm)⟩⟩
def zB (Ph:Addr):Sp:=fun vs H Q _ => ∃ (p:BP) (ss:List Int) (at0:Nat),vs=[.ref p.t,.ref p.L.f,.int (at0:Int)]∧Brk H Ph p ss∧ss.length≤980∧Tree p.ns∧p.ns[at0]?=some 1 ∧
 ∀ (k:Nat) ss' H',dJ p.ns at0 p.ns.length (ht p.ns at0) (k + 1)→Did H H' Ph p.L 4 ss ss'→Q (.int (k:Int)) H'
theorem tL (T:Tx K mg a) (B:Bs mg base a):aX P w K mg base CX0 7 a.f_closing a.fd_closing ["tables", "look", "at"] (zB a.tP_heap_look):=by
 refine T.D_closing.F.ok zJ (fun vs H Q E h=>?_) (fun cdv A outer s H vs Q E hr h=>?_)
 ·obtain ⟨p,ss,at0,rfl,_⟩:=h
  rfl
 obtain ⟨p,ss,at0,rfl,hB,hls,htr,hb,q⟩:=h
 have hat:=(List.getElem?_eq_some_iff.mp hb).1
 refine ⟨_,(aj (bc (aD T.D_check_bracket (fB T) (by decide) hr aH rfl (aa (pv 0) (aa (pv 1) (aa (pv 2) (aa au ao))))))
  (aq (aB (aF bB (aD T.D_low_behind (uG T B) (by decide) hr aH rfl (aa (pv 0) (aa (pv 1) (aa (pv 2) (aa (aD T.D_height (jh T) (by decide) hr aH rfl (aa (pv 0) (aa (pv 1) (aa (pv 2) ao)))) ao))))) au)))),?_⟩
 refine ⟨_,rfl,_,rfl,_,rfl,p.t,p.L,p.ah,p.ns,ss,_,at0,1,rfl,hB.ask,by omega,hb,fun ss1 H1 w1 s1=>?_⟩
 have d1:=hB.look w1 s1
 have l1:=w1.len
 have hB1:=hB.did d1 (by omega)
 refine ⟨_,rfl,_,rfl,_,rfl,_,rfl,_,rfl,_,rfl,p.t,p.L,p.ah,p.ns,ss1,_,at0,rfl,hB1.ask,by omega,by omega,fun ss2 H2 w2 s2=>?_⟩
 have d2:=d1.trans (hB1.look w2 s2)
 have l2:=w2.len
 have hB2:=hB.did d2 (by omega)
 refine ⟨p,ss2,at0,ht p.ns at0,rfl,hB2,by omega,by omega,fun x ss3 H3 hx d3=>?_⟩
 rcases hx with ⟨rfl,hn⟩ | ⟨k,rfl,hf⟩
 ·have:=hn p.ns.length hat (Nat.le_refl _)
  rw [htr.2.1] at this
  have:=htr.pos (k:=at0) (by omega)
  omega
 ·obtain ⟨k,rfl⟩ : ∃ j,k=j + 1:=⟨k - 1,by have:=hf.1; omega⟩
  refine ⟨_,_,rfl,rfl,?_⟩
  have:=q k ss3 H3 hf (d2.trans d3)
  rw [show (k:Int)=((k + 1:Nat):Int) - 1 from by omega] at this
  exact this
def zx (Ph:Addr):Sp:=fun vs H Q _ => ∃ (p:BP) (ss:List Int) (at0:Nat),vs=[.ref p.t,.ref p.L.f,.int (at0:Int)]∧Brk H Ph p ss∧ss.length≤980∧Tree p.ns∧p.ns[at0]?=some 0 ∧
 ∀ (k:Nat) ss' H',oZ p.ns at0 (ht p.ns at0 - 1) k→Did H H' Ph p.L 4 ss ss'→Q (.int (k:Int)) H'
theorem zp (T:Tx K mg a) (B:Bs mg base a):aX P w K mg base CX0 8 a.f_opening a.fd_opening ["tables", "look", "at"] (zx a.tP_heap_look):=by
 refine T.D_opening.F.ok Az (fun vs H Q E h=>?_) (fun cdv A outer s H vs Q E hr h=>?_)
 ·obtain ⟨p,ss,at0,rfl,_⟩:=h
  rfl
 obtain ⟨p,ss,at0,rfl,hB,hls,htr,hb,q⟩:=h
 have hat:=(List.getElem?_eq_some_iff.mp hb).1
 refine ⟨_,(aj (bc (aD T.D_check_bracket (fB T) (by decide) hr aH rfl (aa (pv 0) (aa (pv 1) (aa (pv 2) (aa au ao))))))
  (aq (aB (aD T.D_low_ahead (nj T B) (by decide) hr aH rfl (aa (pv 0) (aa (pv 1) (aa (pv 2) (aa (aF bB (aD T.D_height (jh T) (by decide) hr aH rfl (aa (pv 0) (aa (pv 1) (aa (pv 2) ao)))) au) ao)))))))),?_⟩
 refine ⟨_,rfl,_,rfl,_,rfl,p.t,p.L,p.ah,p.ns,ss,_,at0,0,rfl,hB.ask,by omega,hb,fun ss1 H1 w1 s1=>?_⟩
 have d1:=hB.look w1 s1
 have l1:=w1.len
 have hB1:=hB.did d1 (by omega)
 refine ⟨_,rfl,_,rfl,_,rfl,_,rfl,_,rfl,_,rfl,p.t,p.L,p.ah,p.ns,ss1,_,at0,rfl,hB1.ask,by omega,by omega,fun ss2 H2 w2 s2=>?_⟩
 have d2:=d1.trans (hB1.look w2 s2)
 have l2:=w2.len
 have hB2:=hB.did d2 (by omega)
 refine ⟨_,_,rfl,rfl,p,ss2,at0,ht p.ns at0 - 1,rfl,hB2,by omega,by omega,fun x ss3 H3 hx d3=>?_⟩
 have hbit:0 < at0∧0≤ht p.ns at0 - 1:=by
  have h1:=dC hb
  have h2:=htr.pos (k:=at0 + 1) (by omega)
  refine ⟨?_,by omega⟩
  rcases Nat.eq_zero_or_pos at0 with rfl | z
  ·rw [eU] at h1
   omega
  ·exact z
 rcases hx with ⟨rfl,hn⟩ | ⟨k,rfl,hf⟩
 ·have:=hn 0 hbit.1
  rw [eU] at this
  omega
 ·exact q k ss3 H3 hf (d2.trans d3)
def z7 (Ph:Addr):Sp:=fun vs H Q _ => ∃ (p:BP) (ss:List Int) (at0:Nat) (pairs:Int),vs=[.ref p.t,.ref p.L.f,.int (at0:Int),.int pairs]∧Brk H Ph p ss∧ss.length≤980∧Tree p.ns∧p.ns[at0]?=some 1 ∧
 ∀ x ss' H',((pairs=0∧x=.int (at0:Int))∨(pairs ≠ 0∧((x=.non∧Eh p.ns at0 (ht p.ns at0 - pairs)) ∨ ∃ k:Nat,x=.int (k:Int)∧oZ p.ns at0 (ht p.ns at0 - pairs) k)))→Did H H' Ph p.L 4 ss ss'→Q x H'
theorem rH (T:Tx K mg a) (B:Bs mg base a):aX P w K mg base CX0 8 a.f_further_out a.fd_further_out ["tables", "look", "at", "pairs"] (z7 a.tP_heap_look):=by
 refine T.D_further_out.F.ok sZ (fun vs H Q E h=>?_) (fun cdv A outer s H vs Q E hr h=>?_)
 ·obtain ⟨p,ss,at0,pairs,rfl,_⟩:=h
  rfl
 obtain ⟨p,ss,at0,pairs,rfl,hB,hls,htr,hb,q⟩:=h
 have hat:=(List.getElem?_eq_some_iff.mp hb).1
 refine ⟨_,(aj (bc (aD T.D_check_bracket (fB T) (by decide) hr aH rfl (aa (pv 0) (aa (pv 1) (aa (pv 2) (aa au ao))))))
  (aj (aW (aK bJ (pv 3) au (aM _)) (aq (aB (pv 2))) aL)
  (aq (aB (aD T.D_low_ahead (nj T B) (by decide) hr aH rfl (aa (pv 0) (aa (pv 1) (aa (pv 2) (aa (aF bB (aD T.D_height (jh T) (by decide) hr aH rfl (aa (pv 0) (aa (pv 1) (aa (pv 2) ao)))) (pv 3)) ao))))))))),?_⟩
 refine ⟨_,rfl,_,rfl,_,rfl,p.t,p.L,p.ah,p.ns,ss,_,at0,1,rfl,hB.ask,by omega,hb,fun ss1 H1 w1 s1=>?_⟩
 have d1:=hB.look w1 s1
 have l1:=w1.len
 have hB1:=hB.did d1 (by omega)
 refine ⟨_,rfl,rfl,_,rfl,aO (fun c=>?_) fun c=>?_⟩
 ·have c:V.int pairs=V.int 0:=of_decide_eq_true c
  injection c with c
  exact ⟨_,rfl,q _ ss1 H1 (.inl ⟨c,rfl⟩) (d1.le (by decide))⟩
 have c:pairs ≠ 0:=fun z=>c (decide_eq_true (congrArg V.int z))
 refine ⟨_,rfl,_,rfl,_,rfl,_,rfl,_,rfl,_,rfl,p.t,p.L,p.ah,p.ns,ss1,_,at0,rfl,hB1.ask,by omega,by omega,fun ss2 H2 w2 s2=>?_⟩
 have d2:=d1.trans (hB1.look w2 s2)
 have l2:=w2.len
 have hB2:=hB.did d2 (by omega)
 exact ⟨_,rfl,_,_,rfl,rfl,p,ss2,at0,ht p.ns at0 - pairs,rfl,hB2,by omega,by omega,fun x ss3 H3 hx d3=>q x ss3 H3 (.inr ⟨c,hx⟩) (d2.trans d3)⟩
def wD:Sp:=fun vs H Q E => ∃ (p:Addr) (ds:List Int),vs=[.ref p]∧H p=some (.lst (ds.map V.int))∧ds.length≤2048∧bC ds ∧ ∀ r t ah nd bl lows S xs H',H bl=none→aR H H'→H' r=some (.tup [.ref t,.ref bl])→KB H' t ah nd bl (brk ds 0) lows S xs→Q (.ref r) H'
theorem oF (T:Tx K mg a):aX P w K mg base CX0 7 a.f_kept_tree a.fd_kept_tree ["depths"] wD:=by
 refine T.D_kept_tree.F.ok vR (fun vs H Q E h=>?_) (fun cdv A outer s H vs Q E hr h=>?_)
 ·obtain ⟨p,ds,rfl,_⟩:=h
  rfl
 obtain ⟨p,ds,rfl,hp,hl,hg,q⟩:=h
 refine ⟨_,(aq (aB (aD T.D_kept_brackets (pM T) (by decide) hr aH rfl (aa (aD T.D_brackets_of (rZ T) (by decide) hr aH rfl (aa (pv 0) ao)) ao)))),?_⟩
 refine ⟨_,rfl,p,ds,rfl,hp,hg,hl,fun b H1 hb s1 xb=>?_⟩
 have hbl:=lH hg
 exact ⟨b,brk ds 0,rfl,SqL.of xb,by omega,dO _ _,nO hg,fun r t ah nd bl lows S xs H2 h1 h2 h3 s2 xr kb=>q r t ah nd bl lows S xs H2 (s1.free h1) (s1.trans s2) xr kb⟩
def uP:Sp:=fun vs H Q _ => ∃ (t ah:Addr) (ns:List Int) (rest:List V),vs=[.ref t]∧Tab H t ah ns rest∧Q (.int ((ns.length:Int) / 2)) H
theorem uQ (T:Tx K mg a):aX P w K mg base CX0 1 a.f_node_count a.fd_node_count ["tables"] uP:=by
 refine T.D_node_count.F.ok uH (fun vs H Q E h=>?_) (fun cdv A outer s H vs Q E hr h=>?_)
 ·obtain ⟨t,ah,ns,rest,rfl,_⟩:=h
  rfl
 obtain ⟨t,ah,ns,rest,rfl,hT,q⟩:=h
 refine ⟨_,(aq (aB (aF cu (aZ bx (pv 0) au (fun _ _=>rfl)) au))),?_⟩
 exact ⟨_,rfl,t,_,_,_,rfl,rfl,SqT.of hT.tup,lJ _ _ _ hT.few,_,_,rfl,rfl,⟨by decide,by decide⟩,q⟩
def uB (C:Addr):Sp:=fun vs H Q E => ∃ (t ah:Addr) (ns:List Int) (rest:List V) (node:Int),vs=[.ref t,.int node]∧Tab H t ah ns rest∧((0≤node∧node < (ns.length:Int) / 2∧Q .non H)∨((node < 0∨(ns.length:Int) / 2≤node)∧E (.ref C) none H))
theorem lX (T:Tx K mg a):aX P w K mg base (CX1 P w) 2 a.f_check_node a.fd_check_node ["tables", "node"] (uB a.c_NoNode):=by
 refine T.D_check_node.F.ok1 uD (fun vs H Q E h=>?_) (fun cdv A outer s H vs Q E hr h=>?_)
 ·obtain ⟨t,ah,ns,rest,node,rfl,_⟩:=h
  rfl
 obtain ⟨t,ah,ns,rest,node,rfl,hT,h⟩:=h
 refine ⟨_,(aq (aW (PW.pt (oH (aK ji (pv 1) au (aM _)) (jX (aK xn (pv 1) (aD T.D_node_count (uQ T) (by decide) hr aH rfl (aa (pv 0) ao)) (aM _))))) (aq (En T.x_NoNode rfl (aa HW ao))) aL)),?_⟩
 refine ⟨_,rfl,_,_,rfl,rfl,_,rfl,aO (fun c=>?_) fun c=>?_⟩
 ·have c:=of_decide_eq_true c
  rcases h with ⟨h0,_⟩ | ⟨_,q⟩
  ·omega
  ·exact fK ⟨(by show 1≤sizeLine; decide),q⟩
 have c : ¬ node < 0:=fun z=>c (decide_eq_true z)
 refine ⟨_,rfl,_,rfl,t,ah,ns,rest,rfl,hT,_,_,rfl,rfl,_,rfl,aO (fun c2=>?_) fun c2=>?_⟩
 ·have c2:=of_decide_eq_true c2
  rcases h with ⟨h0,h1,_⟩ | ⟨_,q⟩
  ·omega
  ·exact ⟨(by show 1≤sizeLine; decide),q⟩
 have c2 : ¬ (ns.length:Int) / 2≤node:=fun z=>c2 (decide_eq_true z)
 rcases h with ⟨_,_,q⟩ | ⟨z,_⟩
 ·exact q
 ·omega
structure Nd (H:Hp) (Ph:Addr) (p:BP) (ss ds:List Int):Prop where
 b:Brk H Ph p ss
 few:ss.length≤900
 eq:p.ns=brk ds 0
 good:bC ds
theorem Nd.sum {H:Hp} {Ph:Addr} {p:BP} {ss ds:List Int} (h:Nd H Ph p ss ds):p.ns.sum=ds.length:=by
 rw [h.eq]
 exact qj h.good
theorem Nd.len {H:Hp} {Ph:Addr} {p:BP} {ss ds:List Int} (h:Nd H Ph p ss ds):p.ns.length=2 * ds.length:=by
 rw [h.eq]
 exact lH h.good
theorem Nd.tree {H:Hp} {Ph:Addr} {p:BP} {ss ds:List Int} (h:Nd H Ph p ss ds):Tree p.ns:=by
 rw [h.eq]
 exact nO h.good
theorem Nd.bits {H:Hp} {Ph:Addr} {p:BP} {ss ds:List Int} (h:Nd H Ph p ss ds):aU p.ns:=h.b.ask.bits
theorem Nd.did {H H':Hp} {Ph:Addr} {p:BP} {ss ss' ds:List Int} {k:Nat} (h:Nd H Ph p ss ds) (d:Did H H' Ph p.L k ss ss') (hl:ss'.length≤900):Nd H' Ph p ss' ds:=⟨h.b.did d (by omega),hl,h.eq,h.good⟩
theorem Nd.deep {H:Hp} {Ph:Addr} {p:BP} {ss ds:List Int} (h:Nd H Ph p ss ds) {i x:Nat} (h1:p.ns[x]?=some 1) (h2:(p.ns.take x).sum=(i:Int)):ds[i]?=some (ht p.ns x):=by
 rw [h.eq] at h1 h2 ⊢
 exact yI h.good h1 h2
theorem Nd.at {H:Hp} {Ph:Addr} {p:BP} {ss ds:List Int} (h:Nd H Ph p ss ds) {j:Nat} (hj:j < ds.length) : ∃ x,p.ns[x]?=some 1∧(p.ns.take x).sum=(j:Int):=Ik h.bits (by rw [h.sum]; omega)
theorem Nd.nat {H:Hp} {Ph:Addr} {p:BP} {ss ds:List Int} (h:Nd H Ph p ss ds) (k:Nat) : ∃ i:Nat,(p.ns.take k).sum=(i:Int):=by
 have:=b8 h.bits 0 k (Nat.zero_le _)
 rw [List.take_zero] at this
 have e:([]:List Int).sum=0:=rfl
 exact ⟨(p.ns.take k).sum.toNat,by omega⟩
theorem Nd.btw {H:Hp} {Ph:Addr} {p:BP} {ss ds:List Int} (h:Nd H Ph p ss ds) {k x i j:Nat} {g:Int} (hk:k≤x) (hi:(p.ns.take k).sum=(i:Int)) (hx:(p.ns.take x).sum=(j:Int)) (hall : ∀ q,k≤q→q < x→p.ns[q]?=some 1→g < ht p.ns q) : ∀ m y,i≤m→m < j→ds[m]?=some y→g < y:=fun m y m1 m2 ey=>by
 have hm:=(List.getElem?_eq_some_iff.mp ey).1
 obtain ⟨q,q1,q2⟩:=h.at hm
 have e:=h.deep q1 q2
 rw [ey] at e
 rw [Option.some.inj e]
 refine hall q ?_ ?_ q1
 ·rcases Nat.lt_or_ge q k with z | z
  ·have:=b8 h.bits (q + 1) k z
   rw [bN q1] at this
   omega
  ·exact z
 ·rcases Nat.lt_or_ge q x with z | z
  ·exact z
  ·have:=b8 h.bits x q z
   omega
theorem Nd.up {H:Hp} {Ph:Addr} {p:BP} {ss ds:List Int} (h:Nd H Ph p ss ds) {k x i j:Nat} {g:Int} (hk:k≤x) (hk1:p.ns[k]?=some 1) (hi:(p.ns.take k).sum=(i:Int)) (hg:ht p.ns k=g) (hx1:p.ns[x]?=some 1) (hx:(p.ns.take x).sum=(j:Int)) (hall : ∀ q,k < q→q≤x→g < ht p.ns q):UpN ds j g i:=by
 have hm:=b8 h.bits k x hk
 refine ⟨by omega,by rw [← hg]; exact h.deep hk1 hi,fun m y m1 m2 ey=>?_⟩
 have s1:=bN hk1
 have s2:=bN hx1
 have hkx:k < x:=by
  rcases Nat.lt_or_ge k x with z | z
  ·exact z
  ·have:k=x:=by omega
   subst this
   omega
 exact h.btw (k:=k + 1) (x:=x + 1) (i:=i + 1) (j:=j + 1) (by omega) (by omega) (by omega) (fun q q1 q2 _=>hall q (by omega) (by omega)) m y (by omega) (by omega) ey
theorem Nd.beneath {H:Hp} {Ph:Addr} {p:BP} {ss ds:List Int} (h:Nd H Ph p ss ds) {x c j:Nat} (hx1:p.ns[x]?=some 1) (hx:(p.ns.take x).sum=(j:Int)) (pr:Pair p.ns x c):((c:Int) - x) / 2=((run ds (j + 1) (ht p.ns x):Nat):Int)∧(p.ns.take (c + 1)).sum=((j + 1 + run ds (j + 1) (ht p.ns x):Nat):Int):=by
 have s1:=bN hx1
 have s2:=bN pr.nought
 have e:ht p.ns (c + 1)=ht p.ns x:=pr.eq
 have lt:=pr.lt
 have ltn:=pr.ltn
 obtain ⟨n,hn⟩:=h.nat (c + 1)
 have hm:=b8 h.bits (x + 1) (c + 1) (by omega)
 have heq:2 * ((n:Int)) - ((c + 1:Nat):Int)=2 * (j:Int) - (x:Int):=by
  have:ht p.ns (c + 1)=2 * (p.ns.take (c + 1)).sum - ((c + 1:Nat):Int):=rfl
  have:ht p.ns x=2 * (p.ns.take x).sum - ((x:Nat):Int):=rfl
  omega
 have key:run ds (j + 1) (ht p.ns x)=n - (j + 1):=by
  refine um _ _ (fun m hm=>?_) (fun y ey=>?_)
  ·have hml:j + 1 + m < ds.length:=by
    have:=b8 h.bits (c + 1) p.ns.length (by omega)
    rw [List.take_length,h.sum] at this
    omega
   have ey:=List.getElem?_eq_getElem hml
   exact ⟨_,ey,h.btw (k:=x + 1) (x:=c + 1) (i:=j + 1) (j:=n) (by omega) (by omega) hn (fun q q1 q2 _=>pr.above q (by omega) (by omega)) (j + 1 + m) _ (by omega) (by omega) ey⟩
  ·obtain ⟨q,q1,q2⟩:=h.at (List.getElem?_eq_some_iff.mp ey).1
   have ed:=h.deep q1 q2
   rw [ey] at ed
   have ed:=Option.some.inj ed
   have hqc:c + 1≤q:=by
    rcases Nat.lt_or_ge q (c + 1) with z | z
    ·have:=b8 h.bits (q + 1) (c + 1) z
     rw [bN q1] at this
     omega
    ·exact z
   have:ht p.ns q=2 * (p.ns.take q).sum - ((q:Nat):Int):=rfl
   have:ht p.ns x=2 * (p.ns.take x).sum - ((x:Nat):Int):=rfl
   omega
 rw [key]
 omega
def xq (Ph C:Addr):Sp:=fun vs H Q E => ∃ (p:BP) (ss ds:List Int) (node:Int),vs=[.ref p.t,.ref p.L.f,.int node]∧Nd H Ph p ss ds∧((∃ j:Nat,node=(j:Int)∧j < ds.length ∧ ∀ (x:Nat) ss' H',p.ns[x]?=some 1→(p.ns.take x).sum=(j:Int)→Did H H' Ph p.L 1 ss ss'→Q (.int (x:Int)) H')∨((node < 0∨(ds.length:Int)≤node)∧E (.ref C) none H))
theorem cB (T:Tx K mg a):aX P w K mg base (CX1 P w) 5 a.f_place_of a.fd_place_of ["tables", "look", "node"] (xq a.tP_heap_look a.c_NoNode):=by
 refine T.D_place_of.F.ok1 xx (fun vs H Q E h=>?_) (fun cdv A outer s H vs Q E hr h=>?_)
 ·obtain ⟨p,ss,ds,node,rfl,_⟩:=h
  rfl
 obtain ⟨p,ss,ds,node,rfl,hN,h⟩:=h
 refine ⟨_,(aj (bc (aD T.D_check_node (lX T) (by decide) hr jg rfl (aa (pv 0) (aa (pv 2) ao))))
  (aq (aB (aD T.D_one_place (vY T) (by decide) hr aH rfl (aa (pv 0) (aa (pv 1) (aa (pv 2) ao))))))),?_⟩
 have hsum:=hN.sum
 have hlen:=hN.len
 have few:=hN.few
 refine ⟨_,rfl,_,rfl,p.t,p.ah,p.ns,_,node,rfl,hN.b.ask.tab,?_⟩
 rcases h with ⟨j,rfl,hj,q⟩ | ⟨h1,q⟩
 ·exact .inl ⟨by omega,by omega,_,rfl,_,rfl,_,rfl,p.t,p.L,p.ah,p.ns,ss,[.ref p.nd],(j:Int),rfl,hN.b.ask,by omega,by omega,by omega,fun H1 x ss1 h1 h2 w1 s1=>q x ss1 H1 h1 h2 (hN.b.look w1 s1)⟩
 ·exact .inr ⟨by omega,q⟩
def zz (Ph:Addr):Sp:=fun vs H Q _ => ∃ (p:BP) (ss:List Int) (at0:Nat),vs=[.ref p.t,.ref p.L.f,.int (at0:Int)]∧Brk H Ph p ss∧ss.length≤960∧Tree p.ns∧((p.ns[at0]?=some 1 ∧ ∀ ss' H',Did H H' Ph p.L 2 ss ss'→Q (.int (p.ns.take at0).sum) H')∨(p.ns[at0]?=some 0 ∧ ∀ (k:Nat) ss' H',oZ p.ns at0 (ht p.ns at0 - 1) k→Did H H' Ph p.L 6 ss ss'→Q (.int (p.ns.take k).sum) H'))
theorem mR (T:Tx K mg a) (B:Bs mg base a):aX P w K mg base CX0 9 a.f_node_at a.fd_node_at ["tables", "look", "at"] (zz a.tP_heap_look):=by
 refine T.D_node_at.F.ok Aa (fun vs H Q E h=>?_) (fun cdv A outer s H vs Q E hr h=>?_)
 ·obtain ⟨p,ss,at0,rfl,_⟩:=h
  rfl
 obtain ⟨p,ss,at0,rfl,hB,hl,tr,h⟩:=h
 refine ⟨_,(aj (aW (aK bJ (aD T.D_bit_at (iU T) (by decide) hr aH rfl (aa (pv 0) (aa (pv 1) (aa (pv 2) ao)))) au (aM _)) (aq (aB (aD T.D_ones_at (mW T) (by decide) hr aH rfl (aa (pv 0) (aa (pv 1) (aa (pv 2) ao)))))) aL)
  (aq (aB (aD T.D_ones_at (mW T) (by decide) hr aH rfl (aa (pv 0) (aa (pv 1) (aa (aD T.D_opening (zp T B) (by decide) hr aH rfl (aa (pv 0) (aa (pv 1) (aa (pv 2) ao)))) ao))))))),?_⟩
 rcases h with ⟨hb,q⟩ | ⟨hb,q⟩
 ·have hat:=(List.getElem?_eq_some_iff.mp hb).1
  refine ⟨_,rfl,_,rfl,_,rfl,p.t,p.L,p.ah,p.ns,ss,[.ref p.nd],at0,1,rfl,hB.ask,by omega,hb,fun ss1 H1 w1 s1=>?_⟩
  have d1:=hB.look w1 s1
  have l1:=w1.len
  have hB1:=hB.did d1 (by omega)
  refine ⟨rfl,_,rfl,aO (fun _=>?_) fun z=>absurd (by decide) z⟩
  exact ⟨_,rfl,_,rfl,_,rfl,p.t,p.L,p.ah,p.ns,ss1,[.ref p.nd],at0,rfl,hB1.ask,by omega,by omega,fun ss2 H2 w2 s2=>q ss2 H2 (d1.trans (hB1.look w2 s2))⟩
 ·have hat:=(List.getElem?_eq_some_iff.mp hb).1
  refine ⟨_,rfl,_,rfl,_,rfl,p.t,p.L,p.ah,p.ns,ss,[.ref p.nd],at0,0,rfl,hB.ask,by omega,hb,fun ss1 H1 w1 s1=>?_⟩
  have d1:=hB.look w1 s1
  have l1:=w1.len
  have hB1:=hB.did d1 (by omega)
  refine ⟨rfl,_,rfl,aO (fun z=>absurd z (by decide)) fun _=>?_⟩
  refine ⟨_,rfl,_,rfl,_,rfl,_,rfl,_,rfl,p,ss1,at0,rfl,hB1,by omega,tr,hb,fun k ss2 H2 hk d2=>?_⟩
  have l2:=d2.wr.len
  have hB2:=hB1.did d2 (by omega)
  have:=hk.1
  exact ⟨p.t,p.L,p.ah,p.ns,ss2,[.ref p.nd],k,rfl,hB2.ask,by omega,by omega,fun ss3 H3 w3 s3=>q k ss3 H3 hk ((d1.trans d2).trans (hB2.look w3 s3))⟩
def UpV (ds:List Int) (j:Nat) (steps:Int) (x:V):Prop := ∃ d,ds[j]?=some d∧((x=.non∧d < steps) ∨ ∃ i:Nat,x=.int (i:Int)∧UpN ds j (d - steps) i)
def Ej (Ph C:Addr):Sp:=fun vs H Q E => ∃ (p:BP) (ss ds:List Int) (node steps:Int),vs=[.ref p.t,.ref p.L.f,.int node,.int steps]∧Nd H Ph p ss ds ∧
 ((∃ j:Nat,node=(j:Int)∧j < ds.length∧0≤steps ∧ ∀ x ss' H',UpV ds j steps x→Did H H' Ph p.L 7 ss ss'→Q x H')∨((node < 0∨ds.length≤node)∧E (.ref C) none H))
theorem tZ (T:Tx K mg a) (B:Bs mg base a):aX P w K mg base (CX1 P w) 10 a.f_up_of a.fd_up_of ["tables", "look", "node", "steps"] (Ej a.tP_heap_look a.c_NoNode):=by
 refine T.D_up_of.F.ok1 yP (fun vs H Q E h=>?_) (fun cdv A outer s H vs Q E hr h=>?_)
 ·obtain ⟨p,ss,ds,node,steps,rfl,_⟩:=h
  rfl
 obtain ⟨p,ss,ds,node,steps,rfl,hN,h⟩:=h
 refine ⟨_,(aj (aG (i:=4) yP.nd rfl (Or.inl rfl) (aD T.D_further_out (rH T B) (by decide) hr aH rfl (aa (pv 0) (aa (pv 1) (aa (aD T.D_place_of (cB T) (by decide) hr jg rfl (aa (pv 0) (aa (pv 1) (aa (pv 2) ao)))) (aa (pv 3) ao))))))
  (aj (aW (gP (jG (pv 4))) (aq (aB cG)) aL)
  (aq (aB (aD T.D_node_at (mR T B) (by decide) hr aH rfl (aa (pv 0) (aa (pv 1) (aa (pv 4) ao)))))))),?_⟩
 have few:=hN.few
 refine ⟨_,rfl,_,rfl,_,rfl,_,rfl,_,rfl,p,ss,ds,node,rfl,hN,?_⟩
 rcases h with ⟨j,rfl,hj,hs0,q⟩ | ⟨hno,e⟩
 rotate_left
 ·exact .inr ⟨hno,e⟩
 refine .inl ⟨j,rfl,hj,fun x ss1 H1 hx1 hx2 d1=>?_⟩
 have l1:=d1.wr.len
 have hB1:=hN.b.did d1 (by omega)
 have tr:=hN.tree
 have hdj:=hN.deep hx1 hx2
 have hxl:=(List.getElem?_eq_some_iff.mp hx1).1
 refine ⟨_,rfl,p,ss1,x,steps,rfl,hB1,by omega,tr,hx1,fun v ss2 H2 hv d2=>?_⟩
 have l2:=d2.wr.len
 have d12:=d1.trans d2
 have hB2:=hB1.did d2 (by omega)
 have fin : ∀ (k:Nat),k≤x→p.ns[k]?=some 1→ht p.ns k=ht p.ns x - steps→(∀ i,k < i→i≤x→ht p.ns x - steps < ht p.ns i)→UpV ds j steps (.int (p.ns.take k).sum):=fun k k1 k2 k3 k4=>by
  obtain ⟨i,hi⟩:=hN.nat k
  exact ⟨_,hdj,.inr ⟨i,by rw [hi],hN.up k1 k2 hi k3 hx1 hx2 k4⟩⟩
 rcases hv with ⟨rfl,rfl⟩ | ⟨hst,⟨rfl,hn⟩ | ⟨k,rfl,hk⟩⟩
 ·refine ⟨_,rfl,_,rfl,cW ?_⟩
  exact ⟨_,rfl,_,rfl,_,rfl,p,ss2,x,rfl,hB2,by omega,tr,.inl ⟨hx1,fun ss3 H3 d3=>q _ ss3 H3 (fin x (Nat.le_refl _) hx1 (by omega) (fun i i1 i2=>by omega)) (d12.trans d3)⟩⟩
 ·refine ⟨_,rfl,_,rfl,fK ?_⟩
  refine q _ ss2 H2 ⟨_,hdj,.inl ⟨rfl,?_⟩⟩ (d12.le (by decide))
  rcases Nat.eq_zero_or_pos x with z | z
  ·subst z
   rw [eU]
   omega
  ·have:=hn 0 z
   rw [eU] at this
   omega
 ·obtain ⟨o1,o2,o3⟩:=oN hN.bits (show ht p.ns x - steps < ht p.ns x by omega) (by omega) hk
  have hkx:=hk.1
  refine ⟨_,rfl,_,rfl,cW ?_⟩
  exact ⟨_,rfl,_,rfl,_,rfl,p,ss2,k,rfl,hB2,by omega,tr,.inl ⟨o1,fun ss3 H3 d3=>q _ ss3 H3 (fin k (by omega) o1 o2 o3) (d12.trans d3)⟩⟩
def Cj (R:List Int→Nat→V→Prop) (k:Nat) (Ph C:Addr):Sp:=fun vs H Q E => ∃ (p:BP) (ss ds:List Int) (node:Int),vs=[.ref p.t,.ref p.L.f,.int node]∧Nd H Ph p ss ds ∧
 ((∃ j:Nat,node=(j:Int)∧j < ds.length ∧ ∀ x ss' H',R ds j x→Did H H' Ph p.L k ss ss'→Q x H')∨((node < 0∨(ds.length:Int)≤node)∧E (.ref C) none H))
def Jq (ds:List Int) (j:Nat) (x:V):Prop := ∃ d,ds[j]?=some d∧x=.int d
theorem xR (T:Tx K mg a):aX P w K mg base (CX1 P w) 6 a.f_depth_of a.fd_depth_of ["tables", "look", "node"] (Cj Jq 2 a.tP_heap_look a.c_NoNode):=by
 refine T.D_depth_of.F.ok1 yK (fun vs H Q E h=>?_) (fun cdv A outer s H vs Q E hr h=>?_)
 ·obtain ⟨p,ss,ds,node,rfl,_⟩:=h
  rfl
 obtain ⟨p,ss,ds,node,rfl,hN,h⟩:=h
 refine ⟨_,(aq (aB (aD T.D_height (jh T) (by decide) hr aH rfl (aa (pv 0) (aa (pv 1) (aa (aD T.D_place_of (cB T) (by decide) hr jg rfl (aa (pv 0) (aa (pv 1) (aa (pv 2) ao)))) ao)))))),?_⟩
 have few:=hN.few
 refine ⟨_,rfl,_,rfl,_,rfl,_,rfl,_,rfl,p,ss,ds,node,rfl,hN,?_⟩
 rcases h with ⟨j,rfl,hj,q⟩ | ⟨hno,e⟩
 rotate_left
 ·exact .inr ⟨hno,e⟩
 refine .inl ⟨j,rfl,hj,fun x ss1 H1 hx1 hx2 d1=>?_⟩
 have l1:=d1.wr.len
 have hB1:=hN.b.did d1 (by omega)
 have hxl:=(List.getElem?_eq_some_iff.mp hx1).1
 exact ⟨p.t,p.L,p.ah,p.ns,ss1,[.ref p.nd],x,rfl,hB1.ask,by omega,by omega,fun ss2 H2 w2 s2=>q _ ss2 H2 ⟨_,hN.deep hx1 hx2,rfl⟩ (d1.trans (hB1.look w2 s2))⟩
def IW (ds:List Int) (j:Nat) (x:V):Prop:=UpV ds j 1 x
theorem yo (T:Tx K mg a) (B:Bs mg base a):aX P w K mg base (CX1 P w) 11 a.f_elder_of a.fd_elder_of ["tables", "look", "node"] (Cj IW 7 a.tP_heap_look a.c_NoNode):=by
 refine T.D_elder_of.F.ok1 yx (fun vs H Q E h=>?_) (fun cdv A outer s H vs Q E hr h=>?_)
 ·obtain ⟨p,ss,ds,node,rfl,_⟩:=h
  rfl
 obtain ⟨p,ss,ds,node,rfl,hN,h⟩:=h
 refine ⟨_,(aq (aB (aD T.D_up_of (tZ T B) (by decide) hr jg rfl (aa (pv 0) (aa (pv 1) (aa (pv 2) (aa au ao))))))),?_⟩
 refine ⟨_,rfl,_,rfl,_,rfl,p,ss,ds,node,1,rfl,hN,?_⟩
 rcases h with ⟨j,rfl,hj,q⟩ | ⟨hno,e⟩
 ·exact .inl ⟨j,rfl,hj,by omega,q⟩
 ·exact .inr ⟨hno,e⟩
def Jp (ds:List Int) (j:Nat) (x:V):Prop := ∃ d,ds[j]?=some d∧x=.int ((run ds (j + 1) d:Nat):Int)
theorem lO (T:Tx K mg a) (B:Bs mg base a):aX P w K mg base (CX1 P w) 8 a.f_beneath_of a.fd_beneath_of ["tables", "look", "node"] (Cj Jp 5 a.tP_heap_look a.c_NoNode):=by
 refine T.D_beneath_of.F.ok1 lY (fun vs H Q E h=>?_) (fun cdv A outer s H vs Q E hr h=>?_)
 ·obtain ⟨p,ss,ds,node,rfl,_⟩:=h
  rfl
 obtain ⟨p,ss,ds,node,rfl,hN,h⟩:=h
 refine ⟨_,(aj (aG (i:=3) lY.nd rfl (Or.inl rfl) (aD T.D_place_of (cB T) (by decide) hr jg rfl (aa (pv 0) (aa (pv 1) (aa (pv 2) ao)))))
  (aq (aB (aF cu (aF bB (aD T.D_closing (tL T B) (by decide) hr aH rfl (aa (pv 0) (aa (pv 1) (aa (pv 3) ao)))) (pv 3)) au)))),?_⟩
 have few:=hN.few
 refine ⟨_,rfl,_,rfl,_,rfl,p,ss,ds,node,rfl,hN,?_⟩
 rcases h with ⟨j,rfl,hj,q⟩ | ⟨hno,e⟩
 rotate_left
 ·exact .inr ⟨hno,e⟩
 refine .inl ⟨j,rfl,hj,fun x ss1 H1 hx1 hx2 d1=>?_⟩
 have l1:=d1.wr.len
 have hB1:=hN.b.did d1 (by omega)
 refine ⟨_,rfl,_,rfl,_,rfl,p,ss1,x,rfl,hB1,by omega,hN.tree,hx1,fun c ss2 H2 hc d2=>?_⟩
 have pr:=nC hN.bits hx1 hc
 refine ⟨_,rfl,_,_,rfl,rfl,_,_,rfl,rfl,⟨by decide,by decide⟩,q _ ss2 H2 ⟨_,hN.deep hx1 hx2,?_⟩ (d1.trans d2)⟩
 exact congrArg V.int (hN.beneath hx1 hx2 pr).1
def Fj (ds:List Int) (j:Nat) (x:V):Prop := ∃ d,ds[j]?=some d∧((x=.int ((j:Int) + 1)∧ds[j + 1]?=some (d + 1))∨(x=.non∧ds[j + 1]? ≠ some (d + 1)))
theorem xW (T:Tx K mg a):aX P w K mg base (CX1 P w) 6 a.f_first_of a.fd_first_of ["tables", "look", "node"] (Cj Fj 2 a.tP_heap_look a.c_NoNode):=by
 refine T.D_first_of.F.ok1 qF (fun vs H Q E h=>?_) (fun cdv A outer s H vs Q E hr h=>?_)
 ·obtain ⟨p,ss,ds,node,rfl,_⟩:=h
  rfl
 obtain ⟨p,ss,ds,node,rfl,hN,h⟩:=h
 refine ⟨_,(aj (aG (i:=3) qF.nd rfl (Or.inl rfl) (aF bj (aD T.D_place_of (cB T) (by decide) hr jg rfl (aa (pv 0) (aa (pv 1) (aa (pv 2) ao)))) au))
  (aj (aW (aK bJ (aD T.D_bit_at (iU T) (by decide) hr aH rfl (aa (pv 0) (aa (pv 1) (aa (pv 3) ao)))) au (aM _)) (aq (aB cG)) aL)
  (aq (aB (aF bj (pv 2) au))))),?_⟩
 have few:=hN.few
 refine ⟨_,rfl,_,rfl,_,rfl,p,ss,ds,node,rfl,hN,?_⟩
 rcases h with ⟨j,rfl,hj,q⟩ | ⟨hno,e⟩
 rotate_left
 ·exact .inr ⟨hno,e⟩
 refine .inl ⟨j,rfl,hj,fun x ss1 H1 hx1 hx2 d1=>?_⟩
 have l1:=d1.wr.len
 have hB1:=hN.b.did d1 (by omega)
 have hxl:=(List.getElem?_eq_some_iff.mp hx1).1
 have hdj:=hN.deep hx1 hx2
 have hh:=dC hx1
 have hd0:=cP hN.good hdj
 obtain ⟨_,te,_⟩:=hN.tree
 have hxl':x + 1 < p.ns.length:=by
  rcases Nat.lt_or_ge (x + 1) p.ns.length with z | z
  ·exact z
  ·have:x + 1=p.ns.length:=by omega
   rw [this,te] at hh
   omega
 have s1:=bN hx1
 refine ⟨_,_,rfl,rfl,_,rfl,_,rfl,_,rfl,?_⟩
 obtain ⟨b,hb⟩ : ∃ b,p.ns[x + 1]?=some b:=⟨_,List.getElem?_eq_getElem hxl'⟩
 refine ⟨p.t,p.L,p.ah,p.ns,ss1,[.ref p.nd],x + 1,b,rfl,hB1.ask,by omega,hb,fun ss2 H2 w2 s2=>⟨rfl,_,rfl,?_⟩⟩
 have d2:=d1.trans (hB1.look w2 s2)
 rcases hN.bits b (List.mem_of_getElem? hb) with rfl | rfl
 ·refine fK (q _ ss2 H2 ⟨_,hdj,.inr ⟨rfl,fun z=>?_⟩⟩ d2)
  obtain ⟨r,r1,r2⟩:=hN.at (List.getElem?_eq_some_iff.mp z).1
  have e:=hN.deep r1 r2
  rw [z] at e
  have e:=Option.some.inj e
  have e1:ht p.ns r=2 * (p.ns.take r).sum - ((r:Nat):Int):=rfl
  have e2:ht p.ns x=2 * (p.ns.take x).sum - ((x:Nat):Int):=rfl
  have:r=x + 1:=by omega
  subst this
  rw [hb] at r1
  cases r1
 ·refine cW ⟨_,rfl,_,_,rfl,rfl,q _ ss2 H2 ⟨_,hdj,.inl ⟨rfl,?_⟩⟩ d2⟩
  have:=hN.deep (i:=j + 1) hb (by omega)
  rw [hh,show ht p.ns x + 2 * 1 - 1=ht p.ns x + 1 from by omega] at this
  exact this
def YoV (ds:List Int) (j:Nat) (x:V):Prop := ∃ d,ds[j]?=some d∧((x=.int ((j + 1 + run ds (j + 1) d:Nat):Int)∧ds[j + 1 + run ds (j + 1) d]?=some d)∨(x=.non∧ds[j + 1 + run ds (j + 1) d]? ≠ some d))
theorem uR (T:Tx K mg a) (B:Bs mg base a):aX P w K mg base (CX1 P w) 10 a.f_younger_of a.fd_younger_of ["tables", "look", "node"] (Cj YoV 8 a.tP_heap_look a.c_NoNode):=by
 refine T.D_younger_of.F.ok1 lV (fun vs H Q E h=>?_) (fun cdv A outer s H vs Q E hr h=>?_)
 ·obtain ⟨p,ss,ds,node,rfl,_⟩:=h
  rfl
 obtain ⟨p,ss,ds,node,rfl,hN,h⟩:=h
 refine ⟨_,(aj (aG (i:=3) lV.nd rfl (Or.inl rfl) (aF bj (aD T.D_closing (tL T B) (by decide) hr aH rfl (aa (pv 0) (aa (pv 1) (aa (aD T.D_place_of (cB T) (by decide) hr jg rfl (aa (pv 0) (aa (pv 1) (aa (pv 2) ao)))) ao)))) au))
  (aj (aW (PW.pt (oH (aK bJ (pv 3) (aZ bx (pv 0) au (fun _ _=>rfl)) (aM _)) (jX (aK bJ (aD T.D_bit_at (iU T) (by decide) hr aH rfl (aa (pv 0) (aa (pv 1) (aa (pv 3) ao)))) au (aM _))))) (aq (aB cG)) aL)
  (aq (aB (aD T.D_node_at (mR T B) (by decide) hr aH rfl (aa (pv 0) (aa (pv 1) (aa (pv 3) ao)))))))),?_⟩
 have few:=hN.few
 refine ⟨_,rfl,_,rfl,_,rfl,_,rfl,_,rfl,p,ss,ds,node,rfl,hN,?_⟩
 rcases h with ⟨j,rfl,hj,q⟩ | ⟨hno,e⟩
 rotate_left
 ·exact .inr ⟨hno,e⟩
 refine .inl ⟨j,rfl,hj,fun x ss1 H1 hx1 hx2 d1=>?_⟩
 have l1:=d1.wr.len
 have hB1:=hN.b.did d1 (by omega)
 have hdj:=hN.deep hx1 hx2
 refine ⟨p,ss1,x,rfl,hB1,by omega,hN.tree,hx1,fun c ss2 H2 hc d2=>?_⟩
 have pr:=nC hN.bits hx1 hc
 have l2:=d2.wr.len
 have hB2:=hB1.did d2 (by omega)
 have d12:=d1.trans d2
 obtain ⟨_,sc⟩:=hN.beneath hx1 hx2 pr
 have ec:=pr.eq
 have ltn:=pr.ltn
 have not1:p.ns[c + 1]? ≠ some 1→ds[j + 1 + run ds (j + 1) (ht p.ns x)]? ≠ some (ht p.ns x):=fun n1 z=>by
  obtain ⟨r,r1,r2⟩:=hN.at (List.getElem?_eq_some_iff.mp z).1
  have e:=hN.deep r1 r2
  rw [z] at e
  have e:=Option.some.inj e
  have e1:ht p.ns r=2 * (p.ns.take r).sum - ((r:Nat):Int):=rfl
  have e2:ht p.ns (c + 1)=2 * (p.ns.take (c + 1)).sum - ((c + 1:Nat):Int):=rfl
  have:r=c + 1:=by omega
  subst this
  exact n1 r1
 refine ⟨_,_,rfl,rfl,_,rfl,_,rfl,p.t,_,_,_,rfl,rfl,SqT.of hB2.ask.tab.tup,lJ _ _ _ hB2.ask.tab.few,rfl,_,rfl,?_⟩
 by_cases hce:c + 1=p.ns.length
 ·rw [decide_eq_true (show V.int ((c:Int) + 1)=V.int (p.ns.length:Int) from congrArg V.int (by omega))]
  refine fK (fK (q _ ss2 H2 ⟨_,hdj,.inr ⟨rfl,not1 (by rw [hce,List.getElem?_eq_none (Nat.le_refl _)]; exact nofun)⟩⟩ (d12.le (by decide))))
 rw [decide_eq_false (show ¬ V.int ((c:Int) + 1)=V.int (p.ns.length:Int) from fun z=>hce (by have:=V.int.inj z; omega))]
 obtain ⟨b,hb⟩ : ∃ b,p.ns[c + 1]?=some b:=⟨_,List.getElem?_eq_getElem (by omega)⟩
 refine cW ⟨_,rfl,_,rfl,_,rfl,p.t,p.L,p.ah,p.ns,ss2,[.ref p.nd],c + 1,b,rfl,hB2.ask,by omega,hb,fun ss3 H3 w3 s3=>⟨rfl,_,rfl,?_⟩⟩
 have d3:=hB2.look w3 s3
 have l3:=d3.wr.len
 have hB3:=hB2.did d3 (by omega)
 rcases hN.bits b (List.mem_of_getElem? hb) with rfl | rfl
 ·exact fK (q _ ss3 H3 ⟨_,hdj,.inr ⟨rfl,not1 (by rw [hb]; exact nofun)⟩⟩ ((d12.trans d3).le (by decide)))
 ·refine cW ⟨_,rfl,_,rfl,_,rfl,p,ss3,c + 1,rfl,hB3,by omega,hN.tree,.inl ⟨hb,fun ss4 H4 d4=>q _ ss4 H4 ⟨_,hdj,.inl ⟨by rw [sc],?_⟩⟩ ((d12.trans d3).trans d4)⟩⟩
  rw [← ec]
  rw [← ec] at sc
  exact hN.deep hb sc
def OlV (ds:List Int) (j:Nat) (x:V):Prop := ∃ d,ds[j]?=some d∧((∃ i:Nat,x=.int (i:Int)∧i < j∧ds[i]?=some d ∧ ∀ m y,i < m→m < j→ds[m]?=some y→d < y)∨(x=.non ∧ ∀ i,i < j→ds[i]?=some d → ∃ m y,i < m∧m < j∧ds[m]?=some y∧y < d))
theorem yd (T:Tx K mg a) (B:Bs mg base a):aX P w K mg base (CX1 P w) 10 a.f_older_of a.fd_older_of ["tables", "look", "node"] (Cj OlV 8 a.tP_heap_look a.c_NoNode):=by
 refine T.D_older_of.F.ok1 qy (fun vs H Q E h=>?_) (fun cdv A outer s H vs Q E hr h=>?_)
 ·obtain ⟨p,ss,ds,node,rfl,_⟩:=h
  rfl
 obtain ⟨p,ss,ds,node,rfl,hN,h⟩:=h
 refine ⟨_,(aj (aG (i:=3) qy.nd rfl (Or.inl rfl) (aF bB (aD T.D_place_of (cB T) (by decide) hr jg rfl (aa (pv 0) (aa (pv 1) (aa (pv 2) ao)))) au))
  (aj (aW (PW.pt (oH (aK ji (pv 3) au (aM _)) (jX (aK bJ (aD T.D_bit_at (iU T) (by decide) hr aH rfl (aa (pv 0) (aa (pv 1) (aa (pv 3) ao)))) au (aM _))))) (aq (aB cG)) aL)
  (aq (aB (aD T.D_node_at (mR T B) (by decide) hr aH rfl (aa (pv 0) (aa (pv 1) (aa (pv 3) ao)))))))),?_⟩
 have few:=hN.few
 refine ⟨_,rfl,_,rfl,_,rfl,p,ss,ds,node,rfl,hN,?_⟩
 rcases h with ⟨j,rfl,hj,q⟩ | ⟨hno,e⟩
 rotate_left
 ·exact .inr ⟨hno,e⟩
 refine .inl ⟨j,rfl,hj,fun x ss1 H1 hx1 hx2 d1=>?_⟩
 have l1:=d1.wr.len
 have hB1:=hN.b.did d1 (by omega)
 have hdj:=hN.deep hx1 hx2
 have hxl:=(List.getElem?_eq_some_iff.mp hx1).1
 refine ⟨_,_,rfl,rfl,_,rfl,_,_,rfl,rfl,_,rfl,?_⟩
 rcases Nat.eq_zero_or_pos x with z | z
 ·subst z
  rw [decide_eq_true (show ((0:Nat):Int) - 1 < 0 by omega)]
  refine fK (fK (q _ ss1 H1 ⟨_,hdj,.inr ⟨rfl,fun i hi=>?_⟩⟩ (d1.le (by decide))))
  rw [List.take_zero] at hx2
  have:([]:List Int).sum=0:=rfl
  omega
 obtain ⟨y,rfl⟩ : ∃ y,x=y + 1:=⟨x - 1,by omega⟩
 rw [decide_eq_false (show ¬ ((y + 1:Nat):Int) - 1 < 0 by omega)]
 obtain ⟨b,hb⟩ : ∃ b,p.ns[y]?=some b:=⟨_,List.getElem?_eq_getElem (by omega)⟩
 have ey:V.int (((y + 1:Nat):Int) - 1)=V.int (y:Int):=congrArg V.int (by omega)
 refine cW ⟨_,rfl,_,rfl,_,rfl,p.t,p.L,p.ah,p.ns,ss1,[.ref p.nd],y,b,congrArg (fun v=>[V.ref p.t,V.ref p.L.f,v]) ey,hB1.ask,by omega,hb,fun ss3 H3 w3 s3=>⟨rfl,_,rfl,?_⟩⟩
 have d3:=hB1.look w3 s3
 have l3:=d3.wr.len
 have hB3:=hB1.did d3 (by omega)
 have sy:=bN hb
 have hy:=dC hb
 rcases hN.bits b (List.mem_of_getElem? hb) with rfl | rfl
 ·refine cW ⟨_,rfl,_,rfl,_,rfl,p,ss3,y,congrArg (fun v=>[V.ref p.t,V.ref p.L.f,v]) ey,hB3,by omega,hN.tree,.inr ⟨hb,fun k ss4 H4 hk d4=>q _ ss4 H4 ⟨_,hdj,.inl ?_⟩ ((d1.trans d3).trans d4)⟩⟩
  obtain ⟨i,hi⟩:=hN.nat k
  have pr:=wU hN.bits hb hk
  have hk1:=pr.one
  have lt:=pr.lt
  have ek:=pr.eq
  have hm:=b8 hN.bits (k + 1) (y + 1) (by omega)
  rw [bN hk1] at hm
  refine ⟨i,by rw [hi],by omega,?_,fun m u m1 m2 em=>?_⟩
  ·rw [ek]
   exact hN.deep hk1 hi
  ·rw [ek]
   exact hN.btw (k:=k + 1) (x:=y + 1) (i:=i + 1) (j:=j) (by omega) (by rw [bN hk1]; omega) hx2 (fun r r1 r2 _=>pr.above r (by omega) (by omega)) m u (by omega) m2 em
 ·refine fK (q _ ss3 H3 ⟨_,hdj,.inr ⟨rfl,fun i hi ei=>?_⟩⟩ ((d1.trans d3).le (by decide)))
  have hd1:=hN.deep (i:=j - 1) hb (by omega)
  refine ⟨j - 1,_,?_,by omega,hd1,by omega⟩
  rcases Nat.lt_or_ge i (j - 1) with z | z
  ·exact z
  ·have:i=j - 1:=by omega
   subst this
   rw [ei] at hd1
   have:=Option.some.inj hd1
   omega
def Hm (ds:List Int) (i j:Nat) (x:V):Prop := ∃ d,ds[i]?=some d∧((UpN ds j d i∧x=.bl true)∨(¬ UpN ds j d i∧x=.bl false))
def Hh (R:List Int→Nat→Nat→V→Prop) (k:Nat) (Ph C:Addr):Sp:=fun vs H Q E => ∃ (p:BP) (ss ds:List Int) (one other:Int),vs=[.ref p.t,.ref p.L.f,.int one,.int other]∧Nd H Ph p ss ds∧ss.length≤880 ∧
 ((∃ i j:Nat,one=(i:Int)∧other=(j:Int)∧i < ds.length∧j < ds.length ∧ ∀ x ss' H',R ds i j x→Did H H' Ph p.L k ss ss'→Q x H')∨(((one < 0∨(ds.length:Int)≤one)∨(other < 0∨(ds.length:Int)≤other)) ∧ ∀ ss' H',Did H H' Ph p.L k ss ss'→E (.ref C) none H'))
theorem zH (T:Tx K mg a) (B:Bs mg base a):aX P w K mg base (CX1 P w) 9 a.f_is_over a.fd_is_over ["tables", "look", "one", "other"] (Hh Hm 5 a.tP_heap_look a.c_NoNode):=by
 refine T.D_is_over.F.ok1 tG (fun vs H Q E h=>?_) (fun cdv A outer s H vs Q E hr h=>?_)
 ·obtain ⟨p,ss,ds,one,other,rfl,_⟩:=h
  rfl
 obtain ⟨p,ss,ds,one,other,rfl,hN,h88,h⟩:=h
 refine ⟨_,(aj (bc (aD T.D_check_node (lX T) (by decide) hr jg rfl (aa (pv 0) (aa (pv 3) ao))))
  (aj (aG (i:=4) tG.nd rfl (Or.inl rfl) (aF bj (pv 2) (aD T.D_beneath_of (lO T B) (by decide) hr jg rfl (aa (pv 0) (aa (pv 1) (aa (pv 2) ao))))))
  (aq (aB (El dU dU (pv 2) (pv 3) (pv 4)))))),?_⟩
 have hlen:=hN.len
 have d0:=hN.b.self.le (k:=5) (by decide)
 refine ⟨_,rfl,_,rfl,p.t,p.ah,p.ns,_,other,rfl,hN.b.ask.tab,?_⟩
 rcases h with ⟨i,j,rfl,rfl,hi,hj,q⟩ | ⟨hno,e⟩
 rotate_left
 ·by_cases ho:other < 0∨(ds.length:Int)≤other
  ·exact .inr ⟨by omega,e _ _ d0⟩
  ·exact .inl ⟨by omega,by omega,_,rfl,_,rfl,_,rfl,_,rfl,p,ss,ds,one,rfl,hN,.inr ⟨by omega,e _ _ d0⟩⟩
 refine .inl ⟨by omega,by omega,_,rfl,_,rfl,_,rfl,_,rfl,p,ss,ds,(i:Int),rfl,hN,.inl ⟨i,rfl,hi,fun x ss1 H1 hx d1=>?_⟩⟩
 obtain ⟨d,hd,rfl⟩:=hx
 have ov:=ym (ds:=ds) hd hj
 refine ⟨_,_,rfl,rfl,_,rfl,_,rfl,_,_,rfl,rfl,_,rfl,aO (fun c=>?_) fun c=>?_⟩
 ·have c:=of_decide_eq_true c
  refine ⟨_,rfl,_,_,rfl,rfl,q _ ss1 H1 ⟨d,hd,?_⟩ d1⟩
  by_cases c2:(j:Int)≤(i:Int) + ((run ds (i + 1) d:Nat):Int)
  ·exact .inl ⟨ov.mpr ⟨by omega,by omega⟩,congrArg V.bl (decide_eq_true c2)⟩
  ·exact .inr ⟨fun z=>by have:=ov.mp z; omega,congrArg V.bl (decide_eq_false c2)⟩
 ·have c : ¬ (i:Int)≤(j:Int):=fun z=>c (decide_eq_true z)
  exact q _ ss1 H1 ⟨d,hd,.inr ⟨fun z=>by have:=ov.mp z; omega,rfl⟩⟩ d1
theorem yC {ns:List Int} (hb:aU ns) {y:Nat} (hy:ns[y]?=some 1) : ∀ (n k:Nat),k + n=y → ∃ q,k≤q∧q≤y∧ns[q]?=some 1∧ht ns q≤ht ns k
 | 0,k,e=>⟨k,Nat.le_refl _,by omega,by rw [show k=y from by omega]; exact hy,Int.le_refl _⟩
 | n + 1,k,e=>by
  have hl:=(List.getElem?_eq_some_iff.mp hy).1
  rcases Aw hb (show k < ns.length by omega) with ⟨z1,_⟩ | ⟨_,z2⟩
  ·exact ⟨k,Nat.le_refl _,by omega,z1,Int.le_refl _⟩
  ·obtain ⟨q,q1,q2,q3,q4⟩:=yC hb hy n (k + 1) (by omega)
   exact ⟨q,by omega,q2,q3,by omega⟩
theorem Nd.above {H:Hp} {Ph:Addr} {p:BP} {ss ds:List Int} (h:Nd H Ph p ss ds) {z y i j:Nat} {g:Int} (hz1:p.ns[z]?=some 1) (hz:(p.ns.take z).sum=(i:Int)) (hy1:p.ns[y]?=some 1) (hy:(p.ns.take y).sum=(j:Int)) (u:UpN ds j g i) : ∀ k,z < k→k≤y + 1→g < ht p.ns k:=by
 have low : ∀ q,z < q→q≤y→p.ns[q]?=some 1→g < ht p.ns q:=fun q q1 q2 q3=>by
  obtain ⟨m,hm⟩:=h.nat q
  have s1:=b8 h.bits (z + 1) q q1
  rw [bN hz1] at s1
  have s2:=b8 h.bits q y q2
  exact u.2.2 m _ (by omega) (by omega) (h.deep q3 hm)
 have hg:ht p.ns z=g:=by
  have:=h.deep hz1 hz
  rw [u.2.1] at this
  exact (Option.some.inj this).symm
 intro k k1 k2
 rcases Nat.lt_or_ge k (y + 1) with c | c
 ·obtain ⟨q,q1,q2,q3,q4⟩:=yC h.bits hy1 (y - k) k (by omega)
  have:=low q (by omega) q2 q3
  omega
 ·have:k=y + 1:=by omega
  subst this
  have e:=dC hy1
  rcases Nat.lt_or_ge z y with c2 | c2
  ·have:=low y c2 (Nat.le_refl _) hy1
   omega
  ·have:z=y:=by omega
   subst this
   omega
def Ab (ds:List Int) (i j:Nat) (x:V):Prop := ∃ (f:Nat) (g:Int),x=.int (f:Int)∧UpN ds i g f∧UpN ds j g f ∧ ∀ (y:Nat) (gy:Int),g < gy→UpN ds i gy y→UpN ds j gy y→False
theorem Ab.swap {ds:List Int} {i j:Nat} {x:V} (h:Ab ds i j x):Ab ds j i x:=by
 obtain ⟨f,g,e,h1,h2,h3⟩:=h
 exact ⟨f,g,e,h2,h1,fun y gy a b c=>h3 y gy a c b⟩
theorem vM (T:Tx K mg a) (B:Bs mg base a):aX P w K mg base (CX1 P w) 11 a.f_common_of a.fd_common_of ["tables", "look", "one", "other"] (Hh Ab 12 a.tP_heap_look a.c_NoNode):=by
 refine T.D_common_of.F.ok1 dX (fun vs H Q E h=>?_) (fun cdv A outer s H vs Q E hr h=>?_)
 ·obtain ⟨p,ss,ds,one,other,rfl,_⟩:=h
  rfl
 obtain ⟨p,ss,ds,one,other,rfl,hN,h88,h⟩:=h
 refine ⟨_,(aj (aG (i:=4) dX.nd rfl (Or.inl rfl) (wF (aY (pP rfl) rfl T.b_min Tw.mZ (aa (pv 2) (aa (pv 3) ao)))))
  (aj (aG (i:=5) dX.nd rfl (Or.inl rfl) (aD T.D_place_of (cB T) (by decide) hr jg rfl (aa (pv 0) (aa (pv 1) (aa (pv 4) ao)))))
  (aj (aG (i:=6) dX.nd rfl (Or.inl rfl) (aD T.D_place_of (cB T) (by decide) hr jg rfl (aa (pv 0) (aa (pv 1) (aa (aY (vm rfl) rfl T.b_max Tw.Gd (aa (pv 2) (aa (pv 3) ao))) ao)))))
  (aj (aG (i:=7) dX.nd rfl (Or.inl rfl) (aF bB (aD T.D_lowest (DQ T B) (by decide) hr aH rfl (aa (pv 0) (aa (pv 1) (aa (pv 5) (aa (aF bj (pv 6) au) ao))))) au))
  (aq (aB (aD T.D_up_of (tZ T B) (by decide) hr jg rfl (aa (pv 0) (aa (pv 1) (aa (pv 4) (aa (aF bB (aD T.D_height (jh T) (by decide) hr aH rfl (aa (pv 0) (aa (pv 1) (aa (pv 5) ao)))) (pv 7)) ao))))))))))),?_⟩
 have few:=hN.few
 have d0:=hN.b.self.le (k:=12) (by decide)
 refine ⟨fun v X=>X=H∧v=.int (if other < one then other else one),⟨_,rfl,_,rfl,_,_,rfl,rfl,rfl⟩,?_⟩
 rintro v X ⟨rfl,rfl⟩
 refine ⟨_,rfl,_,rfl,_,rfl,p,ss,ds,_,rfl,hN,?_⟩
 by_cases hlo:(if other < one then other else one) < 0∨(ds.length:Int)≤(if other < one then other else one)
 ·refine .inr ⟨hlo,?_⟩
  rcases h with ⟨i,j,rfl,rfl,hi,hj,q⟩ | ⟨hno,e⟩
  ·split at hlo <;> omega
  ·exact e _ _ d0
 obtain ⟨a1,ea,ha⟩ : ∃ a1:Nat,(if other < one then other else one)=(a1:Int)∧a1 < ds.length:=⟨(if other < one then other else one).toNat,by omega,by omega⟩
 refine .inl ⟨a1,ea,ha,fun x ss1 H1 hx1 hx2 d1=>?_⟩
 have l1:=d1.wr.len
 have hN1:=hN.did d1 (by omega)
 refine ⟨_,rfl,_,rfl,_,rfl,_,rfl,_,_,rfl,p,ss1,ds,_,rfl,hN1,?_⟩
 by_cases hhi:(if one < other then other else one) < 0∨(ds.length:Int)≤(if one < other then other else one)
 ·refine .inr ⟨hhi,?_⟩
  rcases h with ⟨i,j,rfl,rfl,hi,hj,q⟩ | ⟨hno,e⟩
  ·split at hhi <;> omega
  ·exact e _ _ (d1.le (by decide))
 obtain ⟨b1,eb,hb⟩ : ∃ b1:Nat,(if one < other then other else one)=(b1:Int)∧b1 < ds.length:=⟨(if one < other then other else one).toNat,by omega,by omega⟩
 rcases h with ⟨i,j,rfl,rfl,hi,hj,q⟩ | ⟨hno,e⟩
 rotate_left
 ·exfalso
  split at ea <;> split at eb <;> omega
 refine .inl ⟨b1,eb,hb,fun y ss2 H2 hy1 hy2 d2=>?_⟩
 have l2:=d2.wr.len
 have d12:=d1.trans d2
 have hN2:=hN1.did d2 (by omega)
 have hab:a1≤b1∧((a1=i∧b1=j)∨(a1=j∧b1=i)):=by
  split at ea <;> split at eb <;> omega
 have hxy:x≤y:=by
  rcases Nat.lt_or_ge y x with z | z
  ·have:=b8 hN.bits (y + 1) x z
   rw [bN hy1] at this
   omega
  ·exact z
 have hyl:=(List.getElem?_eq_some_iff.mp hy1).1
 have hdx:=hN.deep hx1 hx2
 refine ⟨_,rfl,_,rfl,_,rfl,_,rfl,_,_,rfl,rfl,p,ss2,x,y + 1,rfl,hN2.b,by omega,by omega,by omega,fun m ss3 H3 hm d3=>?_⟩
 have l3:=d3.wr.len
 have d123:=d12.trans d3
 have hN3:=hN2.did d3 (by omega)
 have hsx:=dC hx1
 have hm1:m≤ht p.ns x + 1:=by
  have:=hm.2 (x + 1) (by omega) (by omega)
  omega
 refine ⟨_,_,rfl,rfl,?_⟩
 refine ⟨_,rfl,_,rfl,_,rfl,_,rfl,_,rfl,_,rfl,p.t,p.L,p.ah,p.ns,ss3,[.ref p.nd],x,rfl,hN3.b.ask,by omega,by omega,fun ss4 H4 w4 s4=>?_⟩
 have d4:=hN3.b.look w4 s4
 have l4:=d4.wr.len
 have d14:=d123.trans d4
 have hN4:=hN3.did d4 (by omega)
 refine ⟨_,rfl,_,_,rfl,rfl,p,ss4,ds,_,ht p.ns x - (m - 1),rfl,hN4,.inl ⟨a1,ea,ha,by omega,fun v ss5 H5 hv d5=>?_⟩⟩
 have key:Ab ds a1 b1 v:=by
  obtain ⟨d,hd,hv⟩:=hv
  rw [hdx] at hd
  cases hd
  obtain ⟨⟨k0,k1,k2,ek⟩,hmin⟩:=hm
  have hm0:0 < m:=by
   obtain ⟨_,te,tp⟩:=hN.tree
   rcases Nat.lt_or_ge k0 p.ns.length with z | z
   ·have:=tp k0 (by omega) z
    omega
   ·have e:=dC hy1
    have:k0=y + 1:=by omega
    subst this
    have:=cP hN.good (hN.deep hy1 hy2)
    omega
  rcases hv with ⟨_,hv⟩ | ⟨f,rfl,hf⟩
  ·omega
  rw [show ht p.ns x - (ht p.ns x - (m - 1))=m - 1 from by omega] at hf
  refine ⟨f,m - 1,rfl,hf,⟨by have:=hf.1; omega,hf.2.1,fun c u c1 c2 ec=>?_⟩,fun y0 gy hgy u1 u2=>?_⟩
  ·rcases Nat.lt_or_ge a1 c with z | z
   ·obtain ⟨q,q1,q2⟩:=hN.at (List.getElem?_eq_some_iff.mp ec).1
    have e:=hN.deep q1 q2
    rw [ec] at e
    have e:=Option.some.inj e
    have:x < q:=by
     rcases Nat.lt_or_ge x q with w | w
     ·exact w
     ·have:=b8 hN.bits q x w
      omega
    have:q≤y:=by
     rcases Nat.lt_or_ge y q with w | w
     ·have:=b8 hN.bits (y + 1) q w
      rw [bN hy1] at this
      omega
     ·exact w
    have:=hmin q (by omega) (by omega)
    omega
   ·exact hf.2.2 c u c1 z ec
  ·obtain ⟨z,z1,z2⟩:=hN.at (List.getElem?_eq_some_iff.mp u1.2.1).1
   have hzx:z≤x:=by
    rcases Nat.lt_or_ge x z with w | w
    ·have:=b8 hN.bits (x + 1) z w
     rw [bN hx1] at this
     have:=u1.1
     omega
    ·exact w
   have:=hN.above z1 z2 hy1 hy2 u2 k0 (by omega) k2
   omega
 refine q v ss5 H5 ?_ ((d14.trans d5).le (by decide))
 rcases hab.2 with ⟨e1,e2⟩ | ⟨e1,e2⟩
 ·rw [← e1,← e2]
  exact key
 ·rw [← e1,← e2]
  exact key.swap
def yh (K:PySem.W.Frag):Sp:=fun vs H Q _ => ∃ (p:Addr) (bs:List Int) (m:Nat),vs=[.ref p,.int (m:Int)]∧SqL K H p (bs.map V.int)∧m≤32 * bs.length∧bs.length≤512 ∧
 ∀ r H',H r=none→aR H H'→H' r=some (.lst (((unp bs).take m).map V.int))→Q (.ref r) H'
theorem xN (T:Tx K mg a):aX P w K mg base CX0 3 a.f_unpacked a.fd_unpacked ["blocks", "many"] (yh K):=by
 refine T.D_unpacked.F.ok j8 (fun vs H Q E h=>?_) (fun cdv A outer s H vs Q E hr h=>?_)
 ·obtain ⟨p,ns,m,rfl,_⟩:=h
  rfl
 obtain ⟨p,bs,m,rfl,hS,hm,hl,q⟩:=h
 refine ⟨_,(aj (aW (PW.pt (oH (aK ji (pv 1) au (aM _)) (jX (aK dF (pv 1) (aF bR (bh (v:=.int 32) rfl T.c_BLOCK_BITS ⟨_,rfl⟩) (aY aQ rfl T.b_len Tw.bW (aa (pv 0) ao))) (aM _))))) (aq bU) aL)
  (aj (aG (i:=2) j8.nd rfl (Or.inl rfl) (bT ao))
  (aj (bV PassesOwn.never rfl (dw (pv 0)) (aV (i:=3) j8.nd rfl (Or.inl rfl)) (aq (bc (eY PySem.F.plainAttrs_list PySem.F.slot_list_extend PySem.F.type_list_extend pU (pv 2) (aa (aD T.D_bits_of (jH T) (by decide) hr aH rfl (aa (pv 3) (aa (bh (v:=.int 32) rfl T.c_BLOCK_BITS ⟨_,rfl⟩) ao))) ao)))))
  (aq (aB (eF gU (pv 2) lD (dI (pv 1)))))))),?_⟩
 refine ⟨_,rfl,_,_,rfl,rfl,_,rfl,aO (fun c=>?_) fun _=>?_⟩
 ·have c:=of_decide_eq_true c
  omega
 refine ⟨_,rfl,_,rfl,p,_,rfl,.inl hS,_,_,rfl,rfl,.inl ⟨by decide,by decide⟩,_,_,rfl,rfl,_,rfl,aO (fun c=>?_) fun _=>?_⟩
 ·have c:=of_decide_eq_true c
  rw [List.length_map] at c
  omega
 refine ⟨(by show 0≤sizeLine; decide),fun r hr'=>?_⟩
 have nr : ∀ {x:Addr} {u:HO},H x=some u→x ≠ r:=fun h=>aN h hr'
 refine ⟨_,rfl,p,rfl,⟨_,(aA hr' _).seq hS⟩,?_⟩
 refine cO (xs:=bs.map V.int) (fun i σ H'=>(∃ k,σ=[some (.ref p),some (.int (m:Int)),some (.ref r),k])∧aR H H'∧H' r=some (.lst ((unp (bs.take i)).map V.int))) ?_ ?_ ?_ ?_
 ·exact ⟨⟨none,rfl⟩,aA hr' _,az⟩
 ·rintro i σ H' _ ⟨_,sm,_⟩
  exact sm.seq hS
 ·rintro i x σ H' hx ⟨⟨k,rfl⟩,sm,hr1⟩
  obtain ⟨c,hc,rfl⟩:=int_at hx
  have hi:=(List.getElem?_eq_some_iff.mp hc).1
  refine ⟨_,rfl,.inl ⟨rfl,_,SqL.of hr1⟩,_,rfl,c,32,rfl,by decide,by decide,fun p2 hp2=>?_⟩
  have ne:r ≠ p2:=aN hr1 hp2
  refine ⟨r,p2,_,_,rfl,rfl,by rw [aJ ne]; exact hr1,az,?_,⟨_,rfl⟩,bG (sm.trans (aA hp2 _)) hr' _,?_⟩
  ·rw [List.length_map,List.length_map,uf,List.length_take]
   show 32 * min i bs.length + (bits c 32).length≤sizeLine
   rw [bY,sizeLine_eq]
   omega
  ·rw [az,List.take_add_one,hc]
   show _=some (HO.lst ((unp (bs.take i ++ [c])).map V.int))
   rw [Ga,List.map_append]
   rfl
 ·rintro σ H' ⟨⟨k,rfl⟩,sm,hr1⟩
  rw [List.length_map,List.take_length] at hr1
  refine ⟨_,rfl,_,rfl,_,rfl,r,_,rfl,SqL.of hr1,fun r2 hr2=>?_⟩
  rw [vZ]
  exact q r2 _ (sm.free hr2) (sm.trans (aA hr2 _)) az
def dps (ns:List Int) (n:Nat):List Int:=((List.range n).filter fun i=>decide ((ns[i]?).getD 0=1)).map (ht ns)
theorem tW (ns:List Int) (n:Nat):dps ns (n + 1)=dps ns n ++ (if (ns[n]?).getD 0=1 then [ht ns n] else []):=by
 unfold dps
 rw [List.range_succ,List.filter_append,List.map_append]
 by_cases c:(ns[n]?).getD 0=1 <;> simp [c]
theorem Bd (ns:List Int) (n:Nat):(dps ns n).length≤n:=by
 unfold dps
 rw [List.length_map]
 refine Nat.le_trans (List.length_filter_le _ _) ?_
 rw [List.length_range]
 exact Nat.le_refl _
def v7 (K:PySem.W.Frag):Sp:=fun vs H Q E => ∃ (p:Addr) (ns:List Int),vs=[.ref p]∧SqL K H p (ns.map V.int)∧ns.length≤4096∧aU ns∧Tree ns ∧ ∀ r H',H r=none→aR H H'→H' r=some (.lst ((dps ns ns.length).map V.int))→Q (.ref r) H'
theorem wy (T:Tx K mg a):aX P w K mg base CX0 3 a.f_depths_of a.fd_depths_of ["bits"] (v7 K):=by
 refine T.D_depths_of.F.ok eE (fun vs H Q E h=>?_) (fun cdv A outer s H vs Q E hr h=>?_)
 ·obtain ⟨p,ns,rfl,_⟩:=h
  rfl
 obtain ⟨p,ns,rfl,hS,h⟩:=h
 refine ⟨_,(aj (bc (aD T.D_check_brackets (gZ T) (by decide) hr aH rfl (aa (pv 0) ao)))
  (aj (aG (i:=1) eE.nd rfl (Or.inl rfl) (bT ao))
  (aj (aG (i:=2) eE.nd rfl (Or.inl rfl) au)
  (aj (bV PassesOwn.never rfl (dw (pv 0)) (aV (i:=3) eE.nd rfl (Or.inl rfl)) (aj (aW (aK bJ (pv 3) au (aM _)) (aq (bc (eY PySem.F.plainAttrs_list PySem.F.slot_list_append PySem.F.type_list_append bH (pv 1) (aa (pv 2) ao)))) aL)
  (aq (aG (i:=2) eE.nd rfl (Or.inl rfl) (aF bB (aF bj (pv 2) (aF bR au (pv 3))) au)))))
  (aq (aB (pv 1))))))),?_⟩
 obtain ⟨h1,h2,h3,q⟩:=h
 refine ⟨_,rfl,p,ns,rfl,hS,h1,h2,h3,fun H1 sm1=>?_⟩
 refine ⟨(by show 0≤sizeLine; decide),fun r hr'=>?_⟩
 have hr0:=sm1.free hr'
 have sm2:=sm1.trans (aA hr' (.lst []))
 refine ⟨_,rfl,p,rfl,⟨_,sm2.seq hS⟩,?_⟩
 refine cO (xs:=ns.map V.int) (fun i σ H'=>(∃ k3,σ=[some (.ref p),some (.ref r),some (.int (ht ns i)),k3])∧aR H H'∧H' r=some (.lst ((dps ns i).map V.int))) ⟨⟨none,by rw [eU]; rfl⟩,sm2,az⟩ ?_ ?_ ?_
 ·rintro i σ H' _ ⟨_,sm,_⟩
  exact sm.seq hS
 ·rintro i x σ H' hx ⟨⟨k3,rfl⟩,sm,hr1⟩
  obtain ⟨b,hb,rfl⟩:=int_at hx
  have hi:=(List.getElem?_eq_some_iff.mp hb).1
  refine ⟨_,rfl,rfl,_,rfl,?_⟩
  refine vO (fun σ H2=>σ=[some (.ref p),some (.ref r),some (.int (ht ns i)),some (.int b)]∧aR H H2∧H2 r=some (.lst ((dps ns (i + 1)).map V.int))) (fun d=>⟨rfl,sm,?_⟩) ?_ (fun d m=>?_)
  ·have d : ¬ b=1:=fun z=>d (decide_eq_true (congrArg V.int z))
   rw [tW,hb,Option.getD_some,if_neg d,List.append_nil]
   exact hr1
  rotate_left
  ·have d:V.int b=V.int 1:=of_decide_eq_true d
   injection d with d
   refine ⟨_,rfl,.inl ⟨rfl,_,SqL.of hr1⟩,_,rfl,r,_,_,rfl,rfl,hr1,?_,m _ _ ⟨rfl,bG sm hr0 _,?_⟩⟩
   ·have:=Bd ns i
    rw [List.length_map,sizeLine_eq]
    omega
   ·rw [az,tW,hb,Option.getD_some,if_pos d,List.map_append]
    rfl
  rintro σ2 H2 ⟨rfl,sm2,hr2⟩
  exact ⟨_,rfl,_,rfl,_,_,rfl,rfl,.inl ⟨by decide,by decide⟩,_,_,rfl,rfl,_,_,rfl,rfl,⟨_,by rw [dC hb]; rfl⟩,sm2,hr2⟩
 ·rintro σ H' ⟨⟨k3,rfl⟩,sm,hr1⟩
  rw [List.length_map] at hr1
  exact ⟨_,rfl,q r H' hr0 sm hr1⟩
def wV:Sp:=fun vs H Q _ => ∃ (b n:Int),vs=[.int b,.int n]∧0≤n∧n≤100 ∧ ∀ r,H r=none→Q (.ref r) (upd H r (.lst ((cz b n.toNat).map V.int)))
theorem nD (T:Tx K mg a):aX P w K mg base CX0 1 a.f_octets_of a.fd_octets_of ["number", "many"] wV:=by
 refine T.D_octets_of.F.ok eQ (fun vs H Q E h=>?_) (fun cdv A outer s H vs Q E hr h=>?_)
 ·obtain ⟨b,n,rfl,_⟩:=h
  rfl
 obtain ⟨b,n,rfl,h0,h1,q⟩:=h
 refine ⟨_,(aj (aG (i:=2) eQ.nd rfl (Or.inl rfl) (bT ao))
  (aj (aG (i:=3) eQ.nd rfl (Or.inl rfl) (pv 0))
  (aj (bV PassesOwn.never rfl (iY rfl T.b_range (aa (pv 1) ao)) (aV (i:=4) eQ.nd rfl (Or.inl rfl)) (aj (bc (eY PySem.F.plainAttrs_list PySem.F.slot_list_append PySem.F.type_list_append bH (pv 2) (aa (aF cR (pv 3) au) ao)))
  (aq (aG (i:=3) eQ.nd rfl (Or.inl rfl) (aF cu (pv 3) au)))))
  (aq (aB (pv 2)))))),?_⟩
 refine ⟨(by show 0≤sizeLine; decide),fun r hr'=>?_⟩
 refine ⟨_,rfl,_,rfl,n,rfl,by omega,by omega,?_⟩
 refine pY (n:=n.toNat) (fun i σ H'=>(∃ k,σ=[some (.int b),some (.int n),some (.ref r),some (.int (b / 256 ^ i)),k])∧H'=upd H r (.lst ((cz b i).map V.int))) ?_ ?_ ?_
 ·refine ⟨⟨none,?_⟩,rfl⟩
  rw [Int.pow_zero,Int.ediv_one]
  rfl
 ·rintro i σ H' hi ⟨⟨k,rfl⟩,rfl⟩
  refine ⟨_,rfl,.inl ⟨rfl,_,SqL.of az⟩,_,rfl,_,_,rfl,rfl,(by show (0:Int) < 256; decide),r,_,_,rfl,rfl,az,?_,?_⟩
  ·rw [List.length_map,bz]
   exact small (by omega)
  ·refine ⟨_,rfl,_,_,rfl,rfl,⟨by decide,by decide⟩,⟨some (.int (0 + (i:Int))),?_⟩,?_⟩
   ·rw [← yJ]
    rfl
   ·rw [w6,uX,List.map_append]
    rfl
 ·rintro σ H' ⟨⟨k,rfl⟩,rfl⟩
  exact ⟨_,rfl,q r hr'⟩
def vU (K:PySem.W.Frag):Sp:=fun vs H Q _ => ∃ (p:Addr) (ns:List Int),vs=[.ref p]∧SqL K H p (ns.map V.int)∧Q (.int (oK ns)) H
theorem wZ (T:Tx K mg a):aX P w K mg base CX0 1 a.f_number_of a.fd_number_of ["octets"] (vU K):=by
 refine T.D_number_of.F.ok gk (fun vs H Q E h=>?_) (fun cdv A outer s H vs Q E hr h=>?_)
 ·obtain ⟨p,ns,rfl,_⟩:=h
  rfl
 obtain ⟨p,ns,rfl,hS,q⟩:=h
 refine ⟨_,(aj (aG (i:=1) gk.nd rfl (Or.inl rfl) au)
  (aj (bV PassesOwn.never rfl (Ba rfl T.b_reversed (aa (pv 0) ao) Tw.ie) (aV (i:=2) gk.nd rfl (Or.inl rfl)) (aq (aG (i:=1) gk.nd rfl (Or.inl rfl) (aF bj (aF bR au (pv 1)) (pv 2)))))
  (aq (aB (pv 1))))),?_⟩
 refine ⟨_,rfl,p,_,rfl,hS,?_⟩
 refine wL (xs:=ns.map V.int) (fun i σ H'=>(∃ k,σ=[some (.ref p),some (.int (oK (ns.drop (ns.length - i)))),k])∧H'=H) ?_ ?_ ?_ ?_
 ·refine ⟨⟨none,?_⟩,rfl⟩
  rw [Nat.sub_zero,List.drop_length]
  rfl
 ·rintro i σ H' _ ⟨_,rfl⟩
  exact hS
 ·rintro i x σ H' hi hx ⟨⟨k,rfl⟩,rfl⟩
  obtain ⟨c,hc,rfl⟩:=int_at hx
  rw [List.length_map] at hi hc
  refine ⟨_,rfl,_,_,rfl,rfl,.inl ⟨by decide,by decide⟩,_,rfl,_,_,rfl,rfl,⟨some (.int c),?_⟩,rfl⟩
  have e:ns.drop (ns.length - (i + 1))=c :: ns.drop (ns.length - i):=by
   have e1:ns.length - (i + 1)=ns.length - 1 - i:=by omega
   have e2:ns.length - i=ns.length - 1 - i + 1:=by omega
   rw [e1,e2,List.drop_eq_getElem_cons (by omega)]
   congr 1
   have:=List.getElem?_eq_some_iff.mp hc
   exact this.2
  rw [e]
  rfl
 ·rintro σ H' ⟨⟨k,rfl⟩,rfl⟩
  rw [List.length_map,Nat.sub_self,List.drop_zero]
  exact ⟨_,rfl,q⟩
def nH (K:PySem.W.Frag):Sp:=fun vs H Q _ => ∃ (p:Addr) (ns:List Int) (m:Nat),vs=[.ref p,.int (m:Int)]∧(SqL K H p (ns.map V.int)∨H p=some (.tup (ns.map V.int)))∧ns.length≤5000∧m≤100 ∧
 ∀ r H',H r=none→aR H H'→H' r=some (.lst ((ns.flatMap fun x=>cz x m).map V.int))→Q (.ref r) H'
theorem dY (T:Tx K mg a):aX P w K mg base CX0 2 a.f_numbers_octets a.fd_numbers_octets ["numbers", "size"] (nH K):=by
 refine T.D_numbers_octets.F.ok dW (fun vs H Q E h=>?_) (fun cdv A outer s H vs Q E hr h=>?_)
 ·obtain ⟨p,ns,m,rfl,_⟩:=h
  rfl
 obtain ⟨p,ns,m,rfl,hS,hl,hm,q⟩:=h
 refine ⟨_,(aj (aG (i:=2) dW.nd rfl (Or.inl rfl) (bT ao))
  (aj (bV PassesOwn.never rfl (Iw (pv 0)) (aV (i:=3) dW.nd rfl (Or.inl rfl)) (aq (bc (eY PySem.F.plainAttrs_list PySem.F.slot_list_extend PySem.F.type_list_extend pU (pv 2) (aa (aD T.D_octets_of (nD T) (by decide) hr aH rfl (aa (pv 3) (aa (pv 1) ao))) ao)))))
  (aq (aB (pv 2))))),?_⟩
 refine ⟨(by show 0≤sizeLine; decide),fun r hr'=>?_⟩
 rcases hS with hS | hS
 ·refine ⟨_,rfl,p,rfl,.inl ⟨⟨_,(aA hr' _).seq hS⟩,?_⟩⟩
  refine cO (xs:=ns.map V.int) (fun i σ H'=>(∃ k,σ=[some (.ref p),some (.int (m:Int)),some (.ref r),k])∧aR H H'∧H' r=some (.lst (((ns.take i).flatMap fun x=>cz x m).map V.int))) ⟨⟨none,rfl⟩,aA hr' _,az⟩ ?_ ?_ ?_
  ·rintro i σ H' _ ⟨_,sm,_⟩
   exact sm.seq hS
  ·rintro i x σ H' hx ⟨⟨k,rfl⟩,sm,hr1⟩
   obtain ⟨c,hc,rfl⟩:=int_at hx
   have hi:=(List.getElem?_eq_some_iff.mp hc).1
   refine ⟨_,rfl,.inl ⟨rfl,_,SqL.of hr1⟩,_,rfl,_,rfl,c,(m:Int),rfl,by omega,by omega,fun p2 hp2=>?_⟩
   have ne:r ≠ p2:=aN hr1 hp2
   rw [Int.toNat_natCast] at *
   refine ⟨r,p2,_,_,rfl,rfl,by rw [aJ ne]; exact hr1,az,?_,⟨_,rfl⟩,bG (sm.trans (aA hp2 _)) hr' _,?_⟩
   ·rw [List.length_map,List.length_map,cM,List.length_take,bz,sizeLine_eq]
    have:m * min i ns.length≤100 * 5000:=Nat.mul_le_mul (by omega) (by omega)
    omega
   ·rw [az,List.take_add_one,hc]
    show _=some (HO.lst (((ns.take i ++ [c]).flatMap fun x=>cz x m).map V.int))
    rw [List.flatMap_append,List.map_append]
    simp
  ·rintro σ H' ⟨⟨k,rfl⟩,sm,hr1⟩
   rw [List.length_map,List.take_length] at hr1
   exact ⟨_,rfl,q r H' hr' sm hr1⟩
 ·refine ⟨_,rfl,p,rfl,.inr ⟨⟨_,SqT.of (aA hr' _ _ _ hS)⟩,?_⟩⟩
  refine GQ (xs:=ns.map V.int) (fun i σ H'=>(∃ k,σ=[some (.ref p),some (.int (m:Int)),some (.ref r),k])∧aR H H'∧H' r=some (.lst (((ns.take i).flatMap fun x=>cz x m).map V.int))) ⟨⟨none,rfl⟩,aA hr' _,az⟩ ?_ ?_ ?_
  ·rintro i σ H' _ ⟨_,sm,_⟩
   exact SqT.of (sm _ _ hS)
  ·rintro i x σ H' hx ⟨⟨k,rfl⟩,sm,hr1⟩
   obtain ⟨c,hc,rfl⟩:=int_at hx
   have hi:=(List.getElem?_eq_some_iff.mp hc).1
   refine ⟨_,rfl,.inl ⟨rfl,_,SqL.of hr1⟩,_,rfl,_,rfl,c,(m:Int),rfl,by omega,by omega,fun p2 hp2=>?_⟩
   have ne:r ≠ p2:=aN hr1 hp2
   rw [Int.toNat_natCast] at *
   refine ⟨r,p2,_,_,rfl,rfl,by rw [aJ ne]; exact hr1,az,?_,⟨_,rfl⟩,bG (sm.trans (aA hp2 _)) hr' _,?_⟩
   ·rw [List.length_map,List.length_map,cM,List.length_take,bz,sizeLine_eq]
    have:m * min i ns.length≤100 * 5000:=Nat.mul_le_mul (by omega) (by omega)
    omega
   ·rw [az,List.take_add_one,hc]
    show _=some (HO.lst (((ns.take i ++ [c]).flatMap fun x=>cz x m).map V.int))
    rw [List.flatMap_append,List.map_append]
    simp
  ·rintro σ H' ⟨⟨k,rfl⟩,sm,hr1⟩
   rw [List.length_map,List.take_length] at hr1
   exact ⟨_,rfl,q r H' hr' sm hr1⟩
def sU (K:PySem.W.Frag):Sp:=fun vs H Q _ => ∃ (p t:Addr) (bs ah:List Int),vs=[.ref p,.ref t]∧SqL K H p (bs.map V.int)∧H t=some (.tup (ah.map V.int))∧bs.length≤5000∧ah.length≤5000 ∧
 ∀ r H',H r=none→aR H H'→H' r=some (.lst ((bs.flatMap (fun x=>cz x 4) ++ ah.flatMap (fun x=>cz x 2)).map V.int))→Q (.ref r) H'
theorem tV (T:Tx K mg a):aX P w K mg base CX0 3 a.f_bits_octets a.fd_bits_octets ["blocks", "ahead"] (sU K):=by
 refine T.D_bits_octets.F.ok ul (fun vs H Q E h=>?_) (fun cdv A outer s H vs Q E hr h=>?_)
 ·obtain ⟨p,t,bs,ah,rfl,_⟩:=h
  rfl
 obtain ⟨p,t,bs,ah,rfl,hS,hT,hl1,hl2,q⟩:=h
 refine ⟨_,(aq (aB (aF iD (aD T.D_numbers_octets (dY T) (by decide) hr aH rfl (aa (pv 0) (aa (bh (v:=.int 4) rfl T.c_BLOCK_OCTETS ⟨_,rfl⟩) ao))) (aD T.D_numbers_octets (dY T) (by decide) hr aH rfl (aa (pv 1) (aa (bh (v:=.int 2) rfl T.c_COUNT_OCTETS ⟨_,rfl⟩) ao)))))),?_⟩
 refine ⟨_,rfl,p,bs,4,rfl,.inl hS,hl1,by decide,fun r1 H1 hr1 sm1 x1=>?_⟩
 refine ⟨_,rfl,t,ah,2,rfl,.inr (sm1 _ _ hT),hl2,by decide,fun r2 H2 hr2 sm2 x2=>?_⟩
 refine ⟨r1,r2,_,_,rfl,rfl,sm2 _ _ x1,x2,?_,fun r hr'=>?_⟩
 ·rw [List.length_map,List.length_map,cM,cM,sizeLine_eq]
  omega
 refine q r _ ((sm1.trans sm2).free hr') (sm1.trans (sm2.trans (aA hr' _))) ?_
 rw [az,List.map_append]
def uq:Sp:=fun vs H Q E => ∃ (p:Addr) (ds:List Int),vs=[.ref p]∧H p=some (.lst (ds.map V.int))∧ds.length≤2048∧bC ds ∧ ∀ r H' lows,H r=none→aR H H'→lL (brk ds 0) lows→H' r=some (.lst ((je (brk ds 0) lows).map V.int))→Q (.ref r) H'
theorem lA (T:Tx K mg a):aX P w K mg base CX0 8 a.f_tree_octets a.fd_tree_octets ["depths"] uq:=by
 refine T.D_tree_octets.F.ok cj (fun vs H Q E h=>?_) (fun cdv A outer s H vs Q E hr h=>?_)
 ·obtain ⟨p,ds,rfl,_⟩:=h
  rfl
 obtain ⟨p,ds,rfl,hp,h⟩:=h
 refine ⟨_,(aj (aG (i:=1) cj.nd rfl (Or.inl rfl) (aD T.D_kept_tree (oF T) (by decide) hr aH rfl (aa (pv 0) ao)))
  (aj (aG (i:=2) cj.nd rfl (Or.inl rfl) (aZ bx (pv 1) au (fun _ _=>rfl)))
  (aj (aG (i:=3) cj.nd rfl (Or.inl rfl) (aZ bx (pv 1) au (fun _ _=>rfl)))
  (aj (aG (i:=4) cj.nd rfl (Or.inl rfl) (aF cu (aY aQ rfl T.b_len Tw.bW (aa (aZ bx (pv 2) au (fun _ _=>rfl)) ao)) au))
  (aj (aG (i:=5) cj.nd rfl (Or.inl rfl) (eF Ih (aZ bx (pv 2) au (fun _ _=>rfl)) (dI (pv 4)) (dI (aF bj (pv 4) (aY aQ rfl T.b_len Tw.bW (aa (pv 3) ao))))))
  (aj (aG (i:=6) cj.nd rfl (Or.inl rfl) (aD T.D_octets_of (nD T) (by decide) hr aH rfl (aa (aZ bx (pv 2) au (fun _ _=>rfl)) (aa (bh (v:=.int 2) rfl T.c_COUNT_OCTETS ⟨_,rfl⟩) ao))))
  (aq (aB (aF iD (aF iD (aF iD (bT (aa (bh (v:=.int 2) rfl T.c_TREE ⟨_,rfl⟩) ao)) (pv 6)) (aD T.D_bits_octets (tV T) (by decide) hr aH rfl (aa (pv 3) (aa (aZ bx (pv 2) au (fun _ _=>rfl)) ao)))) (aD T.D_numbers_octets (dY T) (by decide) hr aH rfl (aa (pv 5) (aa (bh (v:=.int 2) rfl T.c_COUNT_OCTETS ⟨_,rfl⟩) ao)))))))))))),?_⟩
 obtain ⟨hl,hg,q⟩:=h
 have hbl:=lH hg
 have hbb:=dO ds 0
 have hm:many (brk ds 0).length≤128:=by
  unfold many
  omega
 refine ⟨_,rfl,p,ds,rfl,hp,hl,hg,fun kr t ah nd bl lows S xs H1 hb0 sm1 xr kb=>?_⟩
 have hll:=kb.low.len
 have hlS:lows.length≤S:=by
  obtain ⟨_,_,z,_⟩:=kb.sz
  exact z
 have hS0:=kb.sz.pos
 have hxl:=kb.heap.len
 have hS4:=kb.sz.le (by omega)
 have xt:=kb.tab.tup
 refine ⟨_,rfl,kr,_,_,_,rfl,rfl,SqT.of xr,rfl,?_⟩
 refine ⟨_,rfl,kr,_,_,_,rfl,rfl,SqT.of xr,rfl,?_⟩
 refine ⟨_,rfl,t,_,_,_,rfl,rfl,SqT.of xt,rfl,nd,_,rfl,.inr (SqT.of kb.nds),_,_,rfl,rfl,⟨by decide,by decide⟩,?_⟩
 have eS:(xs.length:Int) / 2=(S:Int):=by omega
 have elb:((cJ (brk ds 0)).map V.int).length=lows.length:=by
  rw [List.length_map,bA,hll]
 refine ⟨_,rfl,t,_,_,_,rfl,rfl,SqT.of xt,rfl,_,rfl,_,rfl,_,rfl,_,rfl,bl,_,rfl,.inl (SqL.of kb.bls),_,_,rfl,rfl,_,rfl,nd,_,rfl,SqT.of kb.nds,?_,fun lo hlo=>?_⟩
 ·rintro ⟨z,_⟩
  rw [eS,HT.jn] at z
  omega
 have ec:gM xs (some ((xs.length:Int) / 2)) (some ((xs.length:Int) / 2 + (((cJ (brk ds 0)).map V.int).length:Int)))=lows.map V.int:=by
  rw [eS,elb,show (S:Int) + (lows.length:Int)=((S + lows.length:Nat):Int) from by omega,Ez (by omega) (by omega),Nat.add_sub_cancel_left,Dy kb.sz kb.heap]
 rw [ec]
 have s0:=aA hlo (.tup (lows.map V.int))
 have xlo:upd H1 lo (.tup (lows.map V.int)) lo=some (.tup (lows.map V.int)):=az
 generalize upd H1 lo (.tup (lows.map V.int))=H2 at *
 refine ⟨_,rfl,t,_,_,_,rfl,rfl,SqT.of (s0 _ _ xt),rfl,_,_,rfl,by omega,by decide,fun l2 hl2=>?_⟩
 rw [show ((2:Int)).toNat=2 from rfl]
 have s2:=aA hl2 (.lst ((cz ((brk ds 0).length:Int) 2).map V.int))
 refine ⟨(by show 1≤sizeLine; decide),fun l1 hl1=>?_⟩
 have s1:=aA hl1 (.lst [.int 2])
 refine ⟨_,rfl,l1,l2,_,_,rfl,rfl,az,s1 _ _ az,?_,fun l3 hl3=>?_⟩
 ·rw [List.length_map,bz,sizeLine_eq]
  show 1 + 2≤_
  decide
 have s3:=aA hl3 (.lst ([.int 2] ++ (cz ((brk ds 0).length:Int) 2).map V.int))
 have s13:=s0.trans (s2.trans (s1.trans s3))
 refine ⟨_,rfl,_,rfl,t,_,_,_,rfl,rfl,SqT.of (s13 _ _ xt),rfl,bl,ah,cJ (brk ds 0),ahd (brk ds 0) (many (brk ds 0).length),rfl,SqL.of (s13 _ _ kb.bls),s13 _ _ kb.tab.ahs,?_,?_,fun l4 H4 hl4 sm4 x4=>?_⟩
 ·rw [bA]
  omega
 ·rw [cU]
  omega
 refine ⟨l3,l4,_,_,rfl,rfl,sm4 _ _ az,x4,?_,fun l5 hl5=>?_⟩
 ·rw [List.length_append,List.length_map,List.length_map,bz,List.length_append,cM,cM,bA,cU,sizeLine_eq]
  show 1 + 2 + _≤_
  omega
 have s5:=aA hl5 (.lst ([.int 2] ++ (cz ((brk ds 0).length:Int) 2).map V.int ++ ((cJ (brk ds 0)).flatMap (fun x=>cz x 4) ++ (ahd (brk ds 0) (many (brk ds 0).length)).flatMap (fun x=>cz x 2)).map V.int))
 have s25:=s2.trans (s1.trans (s3.trans (sm4.trans s5)))
 refine ⟨_,rfl,lo,lows,2,rfl,.inr (s25 _ _ xlo),by omega,by decide,fun l6 H6 hl6 sm6 x6=>?_⟩
 refine ⟨l5,l6,_,_,rfl,rfl,sm6 _ _ az,x6,?_,fun r hr'=>?_⟩
 ·rw [List.length_append,List.length_append,List.length_map,List.length_map,List.length_map,bz,List.length_append,cM,cM,cM,bA,cU,sizeLine_eq]
  show 1 + 2 + _ + _≤_
  omega
 have sA:=sm1.trans (s0.trans (s25.trans sm6))
 refine q r _ lows (sA.free hr') (sA.trans (aA hr' _)) kb.low ?_
 rw [az]
 unfold je
 rw [List.map_append (l₁:=[2] ++ _ ++ _),List.map_append (l₁:=[2] ++ _),List.map_append]
 rfl
theorem xu {m:Nat} : ∀ (xs:List Int) (k:Nat) (x:Int),xs[k]?=some x→((xs.flatMap fun x=>cz x m).drop (m * k)).take m=cz x m
 | [],k,x,h=>by simp at h
 | y :: r,0,x,h=>by
  cases h
  rw [Nat.mul_zero,List.drop_zero,List.flatMap_cons,List.take_append,bz,Nat.sub_self,List.take_zero,List.append_nil,List.take_of_length_le (by rw [bz]; exact Nat.le_refl _)]
 | y :: r,k + 1,x,h=>by
  rw [List.flatMap_cons,show m * (k + 1)=(cz y m).length + m * k by rw [bz,Nat.mul_succ,Nat.add_comm],List.drop_append,List.drop_of_length_le (Nat.le_add_right _ _),List.nil_append,Nat.add_sub_cancel_left]
  exact xu r k x (by simpa using h)
theorem tO {m:Nat} {xs:List Int} {y:Int} (h:y∈xs.flatMap fun x=>cz x m):0≤y∧y≤255:=by
 obtain ⟨x,_,h⟩:=List.mem_flatMap.mp h
 exact yg h
theorem Ea {ns lows:List Int} {y:Int} (h:y∈je ns lows):0≤y∧y≤255:=by
 unfold je at h
 simp only [List.mem_append,List.mem_singleton] at h
 rcases h with ((rfl | h) | h | h) | h
 ·decide
 ·exact yg h
 ·exact tO h
 ·exact tO h
 ·exact tO h
theorem yD {ns lows:List Int}:((je ns lows).drop 1).take 2=cz (ns.length:Int) 2:=by
 unfold je
 rw [List.append_assoc,List.append_assoc]
 show (cz (ns.length:Int) 2 ++ _).take 2=_
 rw [List.take_append,bz,Nat.sub_self,List.take_zero,List.append_nil,List.take_of_length_le (by rw [bz]; exact Nat.le_refl _)]
theorem zf {ns:List Int} (hb:aU ns) (k:Nat):0≤bK ns k∧bK ns k < 256 ^ 4:=by
 have hsb:aU ((ns.drop (32 * k)).take 32):=fun x hx=>hb x (List.mem_of_mem_drop (List.mem_of_mem_take hx))
 refine ⟨rR hsb,?_⟩
 have h3:=Fq hsb
 have hl:((ns.drop (32 * k)).take 32).length≤32:=by
  rw [List.length_take]
  omega
 have h4:(2:Int) ^ ((ns.drop (32 * k)).take 32).length≤2 ^ 32:=by
  have:=Nat.pow_le_pow_right (show 0 < 2 by decide) hl
  have e : ∀ n:Nat,(2:Int) ^ n=((2 ^ n:Nat):Int):=fun n=>by simp
  rw [e,e]
  omega
 have h5:(2:Int) ^ 32=256 ^ 4:=by decide
 show blk ((ns.drop (32 * k)).take 32) < _
 omega
theorem xH {ns lows:List Int} {k:Nat} (hk:k < many ns.length):((je ns lows).drop (3 + 4 * k)).take 4=cz (bK ns k) 4:=by
 have hp:=gn hk
 have hpl:=bA ns
 have h3:([2] ++ cz (ns.length:Int) 2).length=3:=by rw [List.length_append,bz]; rfl
 unfold je
 rw [List.append_assoc,List.drop_append,h3,List.drop_of_length_le (by rw [h3]; omega),List.nil_append,Nat.add_sub_cancel_left,List.append_assoc]
 have hfl:((cJ ns).flatMap fun x=>cz x 4).length=4 * many ns.length:=by rw [cM,hpl]
 rw [List.drop_append,hfl,show 4 * k - 4 * many ns.length=0 by omega,List.drop_zero,List.take_append]
 rw [show 4 - (((cJ ns).flatMap fun x=>cz x 4).drop (4 * k)).length=0 by rw [List.length_drop,hfl]; omega,List.take_zero,List.append_nil]
 exact xu _ k _ hp
theorem Dw {lo:Int} {n:Nat} {cap:L2.St} {tt:TT} {te:TE} {Qf:Addr→Hp→Prop} {H:Hp} (f:Nat→Int) (hl:n < sizeLine)
  (htt : ∀ (z:Int) (H':Hp) (Q:Bool→Hp→Prop),Q true H'→tt (some (.int z) :: cap) H' Q) (hte : ∀ (i:Nat) (H':Hp) (Q:VK),i < n→aR H H'→(∀ H'',aR H' H''→Q (.int (f i)) H'')→te (some (.int (lo + i)) :: cap) H' Q)
  (q : ∀ D X,H D=none→aR H X→X D=some (.lst (((List.range n).map f).map V.int))→Qf D X):rK (Itr lo n) cap tt te Qf H:=by
 intro D hD
 refine ⟨fun i m ys H1=>m=n - i∧i≤n∧ys=((List.range i).map f).map V.int∧aR H H1∧H1 D=some (.lst ys),⟨_,rfl,Nat.zero_le _,rfl,aA hD _,az⟩,?_⟩
 rintro i m ys H1 ⟨rfl,hi,rfl,sm,hD1⟩
 by_cases hlt:i < n
 ·refine .inr ⟨hlt,fun v H2 y=>?_⟩
  obtain ⟨rfl,rfl⟩:=y
  refine htt _ _ _ ?_
  rw [if_pos rfl]
  refine hte i _ _ hlt sm fun H3 s3=>⟨s3 _ _ hD1,?_,n - (i + 1),by omega,rfl,hlt,?_,bG (sm.trans s3) hD _,az⟩
  ·rw [List.length_map,List.length_map,List.length_range]
   omega
  ·rw [List.range_succ,List.map_append,List.map_append]
   rfl
 ·have e:i=n:=by omega
  subst e
  exact .inl ⟨Nat.le_refl _,q D H1 hD sm hD1⟩
def wj:Sp:=fun vs H Q _ => ∃ (p:Addr) (os:List Int) (at0 sz:Nat),vs=[.ref p,.int (at0:Int),.int (sz:Int)]∧H p=some (.lst (os.map V.int))∧at0 + sz≤os.length ∧ ∀ H',aR H H'→Q (.int (oK ((os.drop at0).take sz))) H'
theorem nU (T:Tx K mg a):aX P w K mg base CX0 2 a.f_number_at a.fd_number_at ["octets", "at", "size"] wj:=by
 refine T.D_number_at.F.ok wu (fun vs H Q E h=>?_) (fun cdv A outer s H vs Q E hr h=>?_)
 ·obtain ⟨p,os,at0,sz,rfl,_⟩:=h
  rfl
 obtain ⟨p,os,at0,sz,rfl,hp,hl,q⟩:=h
 refine ⟨_,(aj (aW (aK dF (aF bj (pv 1) (pv 2)) (aY aQ rfl T.b_len Tw.bW (aa (pv 0) ao)) (aM _)) (aq bU) aL)
  (aq (aB (aD T.D_number_of (wZ T) (by decide) hr aH rfl (aa (eF gU (pv 0) (dI (pv 1)) (dI (aF bj (pv 1) (pv 2)))) ao))))),?_⟩
 have ern:(os.map V.int).length=os.length:=List.length_map ..
 refine ⟨_,rfl,_,rfl,_,_,rfl,rfl,_,rfl,p,_,rfl,.inl (SqL.of hp),_,_,rfl,rfl,_,rfl,aO (fun c=>?_) fun _=>?_⟩
 ·have c:(((os.map V.int).length:Nat):Int) < (at0:Int) + (sz:Int):=of_decide_eq_true c
  omega
 refine ⟨_,rfl,_,rfl,_,rfl,_,rfl,_,rfl,_,_,rfl,rfl,_,rfl,p,_,rfl,SqL.of hp,fun c hc=>?_⟩
 have e:gM (os.map V.int) (some (at0:Int)) (some ((at0:Int) + (sz:Int)))=((os.drop at0).take sz).map V.int:=by
  rw [show (at0:Int) + (sz:Int)=((at0 + sz:Nat):Int) by omega,Bl,Nat.add_sub_cancel_left]
 rw [e]
 exact ⟨c,_,rfl,SqL.of az,q _ (aA hc _)⟩
def ut:Sp:=fun vs H Q _ => ∃ (p:Addr) (os:List Int) (at0 sz m:Nat),vs=[.ref p,.int (at0:Int),.int (sz:Int),.int (m:Int)]∧H p=some (.lst (os.map V.int))∧at0 + sz * m≤os.length∧m≤5000∧sz≤100 ∧ ∀ r H',H r=none→aR H H'→H' r=some (.lst (((List.range m).map fun k=>oK ((os.drop (at0 + sz * k)).take sz)).map V.int))→Q (.ref r) H'
theorem uN (T:Tx K mg a):aX P w K mg base CX0 3 a.f_numbers_at a.fd_numbers_at ["octets", "at", "size", "many"] ut:=by
 refine T.D_numbers_at.F.ok uK (fun vs H Q E h=>?_) (fun cdv A outer s H vs Q E hr h=>?_)
 ·obtain ⟨p,os,at0,sz,m,rfl,_⟩:=h
  rfl
 obtain ⟨p,os,at0,sz,m,rfl,hp,hl,hm,hsz,q⟩:=h
 refine ⟨_,(aq (aB (rn rfl (fj.three (j:=2) (k:=0) (l:=1) (by decide) (by decide) (by decide) rfl rfl rfl (Or.inl rfl) (Or.inl rfl) (Or.inl rfl) rfl rfl rfl rfl (Or.inl rfl) (Or.inl rfl) (Or.inl rfl)) (iY rfl T.b_range (aa (pv 3) ao)) (fun _ _ _ _=>qZ) (fun _ _ _ _=>(aD T.D_number_at (nU T) (by decide) hr aH rfl (aa (pv 2) (aa (aF bj (pv 3) (aF bR (pv 1) (pv 0))) (aa (pv 1) ao)))))))),?_⟩
 refine ⟨_,rfl,(m:Int),rfl,by omega,by omega,?_⟩
 rw [Int.toNat_natCast]
 refine Dw (fun k=>oK ((os.drop (at0 + sz * k)).take sz)) (by rw [sizeLine_eq]; omega) (fun _ _ _ q=>q) (fun i H' Q hi sm qq=>?_) fun D X hD sX xD=>q D X hD sX xD
 refine ⟨_,rfl,_,rfl,_,rfl,_,rfl,_,_,rfl,rfl,.inl ⟨by omega,by omega⟩,_,_,rfl,rfl,_,rfl,p,os,at0 + sz * i,sz,?_,sm _ _ hp,?_,qq⟩
 ·show [V.ref p,V.int ((at0:Int) + (sz:Int) * (0 + (i:Int))),V.int (sz:Int)]=_
  rw [Int.zero_add,Int.natCast_add,Int.natCast_mul]
 ·have:sz * (i + 1)≤sz * m:=Nat.mul_le_mul_left _ hi
  rw [Nat.mul_succ] at this
  omega
def ue:Sp:=fun vs H Q _ => ∃ m:Nat,vs=[.int (m:Int)]∧Q (.int ((many m:Nat):Int)) H
theorem tY (T:Tx K mg a):aX P w K mg base CX0 1 a.f_block_total a.fd_block_total ["many"] ue:=by
 refine T.D_block_total.F.ok sV (fun vs H Q E h=>?_) (fun cdv A outer s H vs Q E hr h=>?_)
 ·obtain ⟨m,rfl,_⟩:=h
  rfl
 obtain ⟨m,rfl,q⟩:=h
 refine ⟨_,(aq (aB (aF cu (aF bB (aF bj (pv 0) (bh (v:=.int 32) rfl T.c_BLOCK_BITS ⟨_,rfl⟩)) au) (bh (v:=.int 32) rfl T.c_BLOCK_BITS ⟨_,rfl⟩)))),?_⟩
 refine ⟨_,rfl,_,_,rfl,rfl,_,_,rfl,rfl,_,_,rfl,rfl,⟨by decide,by decide⟩,?_⟩
 have e:((m:Int) + 32 - 1) / 32=((many m:Nat):Int):=by
  unfold many
  omega
 rw [← e] at q
 exact q
def yz (H:Hp) (p:Addr) (ns lows:List Int):Prop:=H p=some (.lst ((je ns lows).map V.int))∧aU ns∧ns.length≤4096
def zV:Sp:=fun vs H Q _ => ∃ (p:Addr) (ns lows:List Int),vs=[.ref p,.int 3,.int (ns.length:Int)]∧yz H p ns lows ∧ ∀ r H',H r=none→aR H H'→H' r=some (.lst (ns.map V.int))→Q (.ref r) H'
theorem zr (T:Tx K mg a):aX P w K mg base CX0 4 a.f_bits_at a.fd_bits_at ["octets", "at", "many"] zV:=by
 refine T.D_bits_at.F.ok zQ (fun vs H Q E h=>?_) (fun cdv A outer s H vs Q E hr h=>?_)
 ·obtain ⟨p,ns,lows,rfl,_⟩:=h
  rfl
 obtain ⟨p,ns,lows,rfl,⟨hp,hb,hl⟩,q⟩:=h
 refine ⟨_,(aq (aB (aD T.D_unpacked (xN T) (by decide) hr aH rfl (aa (aD T.D_numbers_at (uN T) (by decide) hr aH rfl (aa (pv 0) (aa (pv 1) (aa (bh (v:=.int 4) rfl T.c_BLOCK_OCTETS ⟨_,rfl⟩) (aa (aD T.D_block_total (tY T) (by decide) hr aH rfl (aa (pv 2) ao)) ao))))) (aa (pv 2) ao))))),?_⟩
 have hm:many ns.length≤128:=by
  unfold many
  omega
 have hmm:ns.length≤32 * many ns.length:=by
  unfold many
  omega
 have hol:=nQ (lows:=lows) hb
 refine ⟨_,rfl,_,rfl,_,rfl,ns.length,rfl,p,_,3,4,many ns.length,rfl,hp,by omega,by omega,by decide,fun r1 H1 hr1 s1 x1=>?_⟩
 have e:((List.range (many ns.length)).map fun k=>oK (((je ns lows).drop (3 + 4 * k)).take 4))=cJ ns:=by
  refine List.ext_getElem? fun k=>?_
  by_cases hk:k < many ns.length
  ·rw [List.getElem?_map,List.getElem?_range hk,gn hk]
   have hb':=zf hb k
   rw [Option.map_some,xH hk,vB _ _ hb'.1 (by have:=hb'.2; exact this)]
  ·rw [List.getElem?_eq_none (by rw [List.length_map,List.length_range]; omega),List.getElem?_eq_none (by rw [bA]; omega)]
 rw [e] at x1
 refine ⟨_,rfl,r1,cJ ns,ns.length,rfl,SqL.of x1,by rw [bA]; omega,by rw [bA]; omega,fun r H2 hr2 s2 x2=>q r H2 (s1.free hr2) (s1.trans s2) ?_⟩
 rw [Do hb] at x2
 exact x2
def wM:Sp:=fun vs H Q _ => ∃ (p:Addr) (ns lows:List Int),vs=[.ref p]∧yz H p ns lows ∧ ∀ r H',H r=none→aR H H'→H' r=some (.lst (ns.map V.int))→Q (.ref r) H'
theorem wC (T:Tx K mg a):aX P w K mg base CX0 5 a.f_told_bits a.fd_told_bits ["octets"] wM:=by
 refine T.D_told_bits.F.ok v8 (fun vs H Q E h=>?_) (fun cdv A outer s H vs Q E hr h=>?_)
 ·obtain ⟨p,ns,lows,rfl,_⟩:=h
  rfl
 obtain ⟨p,ns,lows,rfl,⟨hp,hb,hl⟩,q⟩:=h
 refine ⟨_,(aq (aB (aD T.D_bits_at (zr T) (by decide) hr aH rfl (aa (pv 0) (aa (aF bj au (bh (v:=.int 2) rfl T.c_COUNT_OCTETS ⟨_,rfl⟩)) (aa (aD T.D_number_at (nU T) (by decide) hr aH rfl (aa (pv 0) (aa au (aa (bh (v:=.int 2) rfl T.c_COUNT_OCTETS ⟨_,rfl⟩) ao)))) ao)))))),?_⟩
 have hol:=nQ (lows:=lows) hb
 refine ⟨_,rfl,_,_,rfl,rfl,_,rfl,p,_,1,2,rfl,hp,by omega,fun H1 s1=>?_⟩
 rw [yD,vB _ _ (by omega) (by show (ns.length:Int) < 65536; omega)]
 exact ⟨p,ns,lows,rfl,⟨s1 _ _ hp,hb,hl⟩,fun r H2 hr2 s2 x2=>q r H2 (s1.free hr2) (s1.trans s2) x2⟩
theorem BL {ds:List Int} (hg:bC ds) : ∀ n:Nat,n≤(brk ds 0).length → ∃ nd:Nat,((brk ds 0).take n).sum=(nd:Int)∧dps (brk ds 0) n=ds.take nd
 | 0,_=>⟨0,rfl,rfl⟩
 | n + 1,hn=>by
  obtain ⟨nd,h1,h2⟩:=BL hg n (by omega)
  rw [tW]
  rcases sH hg (show n < (brk ds 0).length by omega) with ⟨e,_⟩ | ⟨e,_⟩
  ·refine ⟨nd,by rw [bN e]; omega,?_⟩
   rw [e,Option.getD_some,if_neg (by decide),List.append_nil,h2]
  ·refine ⟨nd + 1,by rw [bN e]; omega,?_⟩
   rw [e,Option.getD_some,if_pos rfl,h2,List.take_add_one,yI hg e h1]
   rfl
theorem Gk {ds:List Int} (hg:bC ds):dps (brk ds 0) (brk ds 0).length=ds:=by
 obtain ⟨nd,h1,h2⟩:=BL hg (brk ds 0).length (Nat.le_refl _)
 rw [List.take_length,qj hg] at h1
 rw [h2,List.take_of_length_le (by omega)]
def rB:Sp:=fun vs H Q _ => ∃ (p:Addr) (ds lows:List Int),vs=[.ref p]∧yz H p (brk ds 0) lows∧bC ds ∧ ∀ r H',H r=none→aR H H'→H' r=some (.lst (ds.map V.int))→Q (.ref r) H'
theorem rY (T:Tx K mg a):aX P w K mg base CX0 6 a.f_told_depths a.fd_told_depths ["octets"] rB:=by
 refine T.D_told_depths.F.ok su (fun vs H Q E h=>?_) (fun cdv A outer s H vs Q E hr h=>?_)
 ·obtain ⟨p,ds,lows,rfl,_⟩:=h
  rfl
 obtain ⟨p,ds,lows,rfl,ho,hg,q⟩:=h
 refine ⟨_,(aq (aB (aD T.D_depths_of (wy T) (by decide) hr aH rfl (aa (aD T.D_told_bits (wC T) (by decide) hr aH rfl (aa (pv 0) ao)) ao)))),?_⟩
 refine ⟨_,rfl,p,_,lows,rfl,ho,fun r1 H1 hr1 s1 x1=>?_⟩
 refine ⟨r1,_,rfl,SqL.of x1,ho.2.2,dO _ _,nO hg,fun r H2 hr2 s2 x2=>q r H2 (s1.free hr2) (s1.trans s2) ?_⟩
 rw [Gk hg] at x2
 exact x2
def qG:Sp:=fun vs H Q _ => ∃ (p:Addr) (os:List Int),vs=[.ref p]∧H p=some (.lst (os.map V.int))∧(∀ y∈os,0≤y∧y≤255)∧Q .non H
theorem qN (T:Tx K mg a):aX P w K mg base CX0 1 a.f_check_octets a.fd_check_octets ["octets"] qG:=by
 refine T.D_check_octets.F.ok jM (fun vs H Q E h=>?_) (fun cdv A outer s H vs Q E hr h=>?_)
 ·obtain ⟨p,os,rfl,_⟩:=h
  rfl
 obtain ⟨p,os,rfl,hp,hall,q⟩:=h
 refine ⟨_,(aq (bV PassesOwn.never rfl (dw (pv 0)) (aV (i:=1) jM.nd rfl (Or.inl rfl)) (aq (aW (j6 (t8 dU dU au (pv 1) au)) (aq bU) aL)))),?_⟩
 refine ⟨_,rfl,p,rfl,⟨_,SqL.of hp⟩,?_⟩
 refine cO (xs:=os.map V.int) (fun i σ X=>X=H ∧ ∃ k,σ=[some (.ref p),k]) ⟨rfl,none,rfl⟩ ?_ ?_ ?_
 ·rintro i σ X _ ⟨rfl,_⟩
  exact SqL.of hp
 ·rintro i x σ X hx ⟨rfl,k,rfl⟩
  obtain ⟨z,hz,rfl⟩:=int_at hx
  have:=hall z (List.mem_of_getElem? hz)
  refine ⟨_,rfl,_,_,rfl,rfl,_,rfl,aO (fun _=>?_) fun c=>absurd (decide_eq_true (show (0:Int)≤z by omega)) c⟩
  refine ⟨_,_,rfl,rfl,_,rfl,?_⟩
  rw [decide_eq_true (show z≤255 by omega)]
  exact cW ⟨rfl,_,rfl⟩
 ·rintro σ X ⟨rfl,k,rfl⟩
  exact q
def Bj (a:Ad):Sp:=fun vs H Q _ => ∃ (p:Addr) (ds lows:List Int),vs=[.ref p,.ref a.f_told_depths,.ref a.f_tree_octets]∧yz H p (brk ds 0) lows∧bC ds∧ds.length≤2048∧lL (brk ds 0) lows ∧ ∀ r H',H r=none→aR H H'→H' r=some (.lst (ds.map V.int))→Q (.ref r) H'
theorem zG (T:Tx K mg a):aX P w K mg base CX0 9 a.f_read_as a.fd_read_as ["octets", "tell", "write"] (Bj a):=by
 refine T.D_read_as.F.ok mD (fun vs H Q E h=>?_) (fun cdv A outer s H vs Q E hr h=>?_)
 ·obtain ⟨p,ds,lows,rfl,_⟩:=h
  rfl
 obtain ⟨p,ds,lows,rfl,ho,hg,hl,hlo,q⟩:=h
 refine ⟨_,(aj (bc (aD T.D_check_octets (qN T) (by decide) hr aH rfl (aa (pv 0) ao)))
  (aj (Jh rfl rfl (fun _ _=>(aj (aG (i:=3) mD.nd rfl (Or.inl rfl) (yW (rY T) (by decide) hr aH (i:=1) rfl T.D_told_depths.F.kp T.D_told_depths.b (aa (pv 0) ao)))
  (aq (aG (i:=4) mD.nd rfl (Or.inl rfl) (yW (lA T) (by decide) hr aH (i:=2) rfl T.D_tree_octets.F.kp T.D_tree_octets.b (aa (pv 3) ao)))))) (JK T.x_WoodError T.k_WoodError rfl (fun _=>(aq bU)) IK))
  (aj (aW (aK (Ew hr.units) (pv 4) (pv 0) (aM _)) (aq bU) aL)
  (aq (aB (pv 3)))))),?_⟩
 refine ⟨_,rfl,p,_,rfl,ho.1,fun y hy=>Ea hy,?_⟩
 refine ⟨rfl,_,rfl,p,ds,lows,rfl,ho,hg,fun r H1 hr1 s1 x1=>?_⟩
 refine ⟨rfl,_,rfl,r,ds,rfl,x1,hl,hg,fun r2 H2 lows2 hr2 s2 hlo2 x2=>?_⟩
 have:=hlo2.uniq hlo
 subst this
 refine ⟨_,rfl,_,rfl,.inl ⟨r2,p,_,_,rfl,rfl,SqL.of x2,SqL.of (s2 _ _ (s1 _ _ ho.1)),?_⟩⟩
 rw [decide_eq_true rfl]
 exact ⟨_,rfl,cW ⟨_,rfl,q r H2 hr1 (s1.trans s2) (s2 _ _ x1)⟩⟩
def wG:Sp:=fun vs H Q _ => ∃ (p:Addr) (ds lows:List Int),vs=[.ref p]∧yz H p (brk ds 0) lows∧bC ds∧ds.length≤2048∧lL (brk ds 0) lows ∧ ∀ r H',H r=none→aR H H'→H' r=some (.lst (ds.map V.int))→Q (.ref r) H'
theorem nM (T:Tx K mg a):aX P w K mg base CX0 10 a.f_read_tree a.fd_read_tree ["octets"] wG:=by
 refine T.D_read_tree.F.ok vN (fun vs H Q E h=>?_) (fun cdv A outer s H vs Q E hr h=>?_)
 ·obtain ⟨p,ds,lows,rfl,_⟩:=h
  rfl
 obtain ⟨p,ds,lows,rfl,ho⟩:=h
 refine ⟨_,(aq (aB (aD T.D_read_as (zG T) (by decide) hr aH rfl (aa (pv 0) (aa (bh (v:=.ref a.f_told_depths) rfl T.D_told_depths.m rfl) (aa (bh (v:=.ref a.f_tree_octets) rfl T.D_tree_octets.m rfl) ao)))))),?_⟩
 exact ⟨_,rfl,p,ds,lows,rfl,ho⟩
def CQ (Pl:Addr):Sp:=fun vs H Q _ => ∃ (p:Addr) (ds lows:List Int),vs=[.ref p]∧yz H p (brk ds 0) lows∧bC ds∧ds.length≤2048∧lL (brk ds 0) lows∧TabAt H Pl (jT fu) dD.qual ∧
 ∀ r t ah nd bl g lows' S xs cs H',H bl=none→vC Pl H H'→TabAt H' Pl (jT fu) dD.qual→H' r=some (.tup [.ref t,.ref g])→KB H' t ah nd bl (brk ds 0) lows' S xs→cN H' g dD cs [.ref bl]→Q (.ref r) H'
theorem ur (T:Tx K mg a) (B:Bs mg base a):aX P w K mg base CX0 11 a.f_opened_tree a.fd_opened_tree ["octets"] (CQ a.tP_look_of):=by
 refine T.D_opened_tree.F.ok kO (fun vs H Q E h=>?_) (fun cdv A outer s H vs Q E hr h=>?_)
 ·obtain ⟨p,ds,lows,rfl,_⟩:=h
  rfl
 obtain ⟨p,ds,lows,rfl,ho,hg,hl,hlo,hT,q⟩:=h
 refine ⟨_,(aj (aG (i:=1) kO.nd rfl (Or.inl rfl) (aD T.D_kept_tree (oF T) (by decide) hr aH rfl (aa (aD T.D_read_tree (nM T) (by decide) hr aH rfl (aa (pv 0) ao)) ao)))
  (aq (aB (mK (aa (aZ bx (pv 1) au (fun _ _=>rfl)) (aa (aD T.D_look_of (zm T B) (by decide) hr aH rfl (aa (aZ bx (pv 1) au (fun _ _=>rfl)) ao)) ao)))))),?_⟩
 refine ⟨_,rfl,p,ds,lows,rfl,ho,hg,hl,hlo,fun r1 H1 hr1 s1 x1=>?_⟩
 refine ⟨r1,ds,rfl,x1,hl,hg,fun kr t ah nd bl lows' S xs H2 hbl s2 xkr kb=>?_⟩
 have s12:=s1.trans s2
 have hT2:=TabAt.same hT s12
 refine ⟨_,rfl,kr,_,_,_,rfl,rfl,SqT.of xkr,rfl,_,rfl,kr,_,_,_,rfl,rfl,SqT.of xkr,rfl,bl,_,rfl,SqL.of kb.bls,hT2,fun g rb H3 cs nf nr b3 hT3 cg xrb=>?_⟩
 refine ⟨(by show 2≤sizeLine; decide),fun r hr'=>?_⟩
 have s4:=aA hr' (.tup [.ref t,.ref g])
 have k3 : ∀ b o,H2 b=some o→(∀ ps,o ≠ .tbl ps)→upd H3 r (.tup [.ref t,.ref g]) b=some o:=fun b o e n=>s4 _ _ (b3 b o e (TabAt.ne hT2 e n))
 exact q r t ah nd rb g lows' S xs cs _ (s12.free nr) (fun b o e n=>s4 _ _ (b3 b o (s12 _ _ e) n)) (TabAt.same hT3 s4) az ⟨⟨k3 _ _ kb.tab.tup nofun,k3 _ _ kb.tab.ahs nofun,kb.tab.few⟩,k3 _ _ kb.nds nofun,s4 _ _ xrb,kb.low,kb.sz,kb.heap⟩ (cg.same fun b o e=>s4 _ _ e)
theorem bC.take {ds:List Int} (h:bC ds) {m:Nat} (hm:1≤m):bC (ds.take m):=by
 obtain ⟨h1,h2⟩:=h
 refine ⟨by rw [List.getElem?_take,if_pos (show 0 < m by omega)]; exact h1,fun i x y ex ey=>?_⟩
 rw [List.getElem?_take] at ex ey
 split at ey
 ·rw [if_pos (by omega)] at ex
  exact h2 i x y ex ey
 ·cases ey
def zM (K:PySem.W.Frag):Sp:=fun vs H Q _ => ∃ (p:Addr) (zs:List Int) (m:Nat),vs=[.ref p,.int (m:Int)]∧SqL K H p (zs.map V.int)∧zs.length≤63∧1≤m ∧ ∀ (r:Addr) (H':Hp) (ds:List Int),H r=none→aR H H'→H' r=some (.lst (ds.map V.int))→bC ds→ds.length≤m→Q (.ref r) H'
theorem uE (T:Tx K mg a):aX P w K mg base CX0 1 a.f_law_depths a.fd_law_depths ["_law_script", "_law_most"] (zM K):=by
 refine T.D_law_depths.F.ok bL (fun vs H Q E h=>?_) (fun cdv A outer s H vs Q E hr h=>?_)
 ·obtain ⟨p,zs,m,rfl,_⟩:=h
  rfl
 obtain ⟨p,zs,m,rfl,hS,hl,hm1,q⟩:=h
 refine ⟨_,(aj (aG (i:=2) bL.nd rfl (Or.inl rfl) (bT (aa au ao)))
  (aj (bV PassesOwn.never rfl (dw (eF gU (pv 0) lD (dI au))) (aV (i:=3) bL.nd rfl (Or.inl rfl)) (aj (aG (i:=4) bL.nd rfl (Or.inl rfl) (aF cR (aF bR (pv 3) au) au))
  (aj (aG (i:=5) bL.nd rfl (Or.inl rfl) (aF bj au (aF cR (aF cu (pv 4) au) (aF bj (aZ bD (pv 2) (vp oO au) (fun _ _=>rfl)) au))))
  (aj (aG (i:=6) bL.nd rfl (Or.inl rfl) au)
  (aj (aW (aK dF (aF cR (pv 4) au) au (aM _)) (aq (aG (i:=6) bL.nd rfl (Or.inl rfl) (aF bj au (aF cR (aF cR (aF bR (pv 3) au) au) au)))) aL)
  (aj (aW (aK bJ (aF cR (aF cu (pv 4) au) au) au (aM _)) (aq (aG (i:=6) bL.nd rfl (Or.inl rfl) au)) aL)
  (aq (bV PassesOwn.never rfl (iY rfl T.b_range (aa (pv 6) ao)) (aV (i:=7) bL.nd rfl (Or.inl rfl)) (aj (bc (eY PySem.F.plainAttrs_list PySem.F.slot_list_append PySem.F.type_list_append bH (pv 2) (aa (pv 5) ao)))
  (aq (aW (aK bJ (aF cR (pv 4) au) au (aM _)) (aq (aG (i:=5) bL.nd rfl (Or.inl rfl) (aF bj (pv 5) au))) aL)))))))))))
  (aq (aB (eF gU (pv 2) lD (dI (pv 1))))))),?_⟩
 refine ⟨(by show 1≤sizeLine; decide),fun r hr'=>?_⟩
 refine ⟨_,rfl,_,rfl,p,_,rfl,(aA hr' _).seq hS,fun c hc=>⟨c,rfl,⟨_,SqL.of az⟩,?_⟩⟩
 have ez:gM (zs.map V.int) none (some 63)=zs.map V.int:=by
  rw [show (63:Int)=((63:Nat):Int) from rfl,vZ,List.take_of_length_le hl]
 rw [ez] at *
 have ne:r ≠ c:=aN az hc
 refine cO (xs:=zs.map V.int) (fun i σ H'=>(∃ (k2 k4 k5 k6 k7:Option V),σ=[some (.ref p),some (.int (m:Int)),some (.ref r),k2,k4,k5,k6,k7])∧aR H H'∧H' c=some (.lst (zs.map V.int)) ∧ ∃ (es:List Int) (la:Int),H' r=some (.lst ((es ++ [la]).map V.int))∧bC (es ++ [la])∧0≤la∧es.length≤40 * i) ?_ ?_ ?_ ?_
 ·refine ⟨⟨none,none,none,none,none,rfl⟩,(aA hr' _).trans (aA hc _),az,[],0,?_,bC.root,by decide,by simp⟩
  rw [aJ ne,az]
  rfl
 ·rintro i σ H' _ ⟨_,_,h,_⟩
  exact SqL.of h
 ·rintro i x σ H' hx ⟨⟨k2,k4,k5,k6,k7,rfl⟩,sm,hc1,es,la,hr1,hg,hla0,hn⟩
  obtain ⟨z,hz,rfl⟩:=int_at hx
  have hi:=(List.getElem?_eq_some_iff.mp hz).1
  have hla:atI ((es ++ [la]).map V.int) (-1)=some (.int la):=by
   rw [List.map_append]
   exact nJ _ _
  refine ⟨_,rfl,_,_,rfl,rfl,.inr ⟨by decide,by decide⟩,_,_,rfl,rfl,(by show (0:Int) < 2147483647; decide),?_⟩
  refine ⟨_,rfl,_,_,rfl,rfl,⟨by decide,by decide⟩,_,rfl,_,rfl,r,_,_,_,rfl,rfl,SqL.of hr1,hla,_,_,rfl,rfl,_,_,rfl,rfl,(by show (0:Int) < la + 1; omega),_,_,rfl,rfl,?_⟩
  have b0:=Int.emod_nonneg (z * 48271 % 2147483647 / 8) (show la + 1 ≠ 0 by omega)
  have b1:=Int.emod_lt_of_pos (z * 48271 % 2147483647 / 8) (show (0:Int) < la + 1 by omega)
  generalize z * 48271 % 2147483647 / 8 % (la + 1)=dd at *
  refine ⟨_,rfl,_,_,rfl,rfl,(by show (0:Int) < 8; decide),_,_,rfl,rfl,_,rfl,?_⟩
  refine Er (fun σ H2=>H2=H' ∧ ∃ mn:Int,σ=[some (.ref p),some (.int (m:Int)),some (.ref r),some (.int z),some (.int (z * 48271 % 2147483647)),some (.int (1 + dd)),some (.int mn),k7]∧1≤mn∧mn≤40) ⟨rfl,_,rfl,by omega,by omega⟩ ?_ (fun _ mm=>?_)
  rotate_left
  ·refine ⟨_,rfl,_,_,rfl,rfl,.inr ⟨by decide,by decide⟩,_,_,rfl,rfl,(by show (0:Int) < 2147483629; decide),_,_,rfl,rfl,(by show (0:Int) < 10; decide),_,_,rfl,rfl,?_⟩
   exact mm _ _ ⟨rfl,1 + z * 69621 % 2147483629 % 10,rfl,by omega,by omega⟩
  rintro σ2 H2 ⟨rfl,mn,rfl,hm0,hm1'⟩
  refine ⟨_,rfl,_,_,rfl,rfl,⟨by decide,by decide⟩,_,_,rfl,rfl,(by show (0:Int) < 16; decide),rfl,_,rfl,?_⟩
  refine Er (fun σ H3=>H3=H2 ∧ ∃ mn:Int,σ=[some (.ref p),some (.int (m:Int)),some (.ref r),some (.int z),some (.int (z * 48271 % 2147483647)),some (.int (1 + dd)),some (.int mn),k7]∧1≤mn∧mn≤40) ⟨rfl,mn,rfl,hm0,hm1'⟩ ?_ (fun _ mm=>mm _ _ ⟨rfl,40,rfl,by decide,by decide⟩)
  rintro σ3 H3 ⟨rfl,mn,rfl,hm0,hm1'⟩
  refine ⟨_,rfl,_,rfl,by omega,by omega,?_⟩
  refine pY (fun j σ H3=>(∃ (dp:Int) (k7:Option V),σ=[some (.ref p),some (.int (m:Int)),some (.ref r),some (.int z),some (.int (z * 48271 % 2147483647)),some (.int dp),some (.int mn),k7]∧1≤dp∧aR H H3∧H3 c=some (.lst (zs.map V.int)) ∧ ∃ (fs:List Int) (lb:Int),H3 r=some (.lst ((fs ++ [lb]).map V.int))∧bC (fs ++ [lb])∧0≤lb∧fs.length=es.length + j∧dp≤lb + 1)) ?_ ?_ ?_
  ·exact ⟨_,_,rfl,by omega,sm,hc1,es,la,hr1,hg,hla0,rfl,by omega⟩
  ·rintro j σ H3 hj ⟨dp,k7,rfl,hd0,sm3,hc3,fs,lb,hr3,hg3,hlb0,hfl,g0⟩
   have hj':(j:Int) < 40:=by omega
   refine ⟨_,rfl,.inl ⟨rfl,_,SqL.of hr3⟩,_,rfl,r,_,_,rfl,rfl,hr3,?_,?_⟩
   ·rw [List.length_map,List.length_append,List.length_singleton,sizeLine_eq]
    omega
   have sm4:=bG sm3 hr' (.lst ((fs ++ [lb]).map V.int ++ [.int dp]))
   have hc4:upd H3 r (.lst ((fs ++ [lb]).map V.int ++ [.int dp])) c=some (.lst (zs.map V.int)):=by
    rw [aJ (Ne.symm ne)]
    exact hc3
   have hr4:upd H3 r (.lst ((fs ++ [lb]).map V.int ++ [.int dp])) r=some (.lst ((fs ++ [lb] ++ [dp]).map V.int)):=by
    rw [az,List.map_append (l₂:=[dp])]
    rfl
   have hg4:bC (fs ++ [lb] ++ [dp]):=hg3.snoc (by simp) hd0 g0
   have hl4:(fs ++ [lb]).length=es.length + (j + 1):=by
    rw [List.length_append,List.length_singleton]
    omega
   refine ⟨_,rfl,_,_,rfl,rfl,(by show (0:Int) < 8; decide),rfl,_,rfl,aO (fun _=>?_) fun _=>?_⟩
   ·exact ⟨_,rfl,_,_,rfl,rfl,dp + 1,_,rfl,by omega,sm4,hc4,fs ++ [lb],dp,hr4,hg4,by omega,hl4,by omega⟩
   ·exact ⟨dp,_,rfl,by omega,sm4,hc4,fs ++ [lb],dp,hr4,hg4,by omega,hl4,by omega⟩
  ·rintro σ H3 ⟨dp,k7,rfl,hd0,sm3,hc3,fs,lb,hr3,hg3,hlb0,hfl,g0⟩
   exact ⟨⟨_,_,_,_,_,rfl⟩,sm3,hc3,fs,lb,hr3,hg3,hlb0,by omega⟩
 ·rintro σ H' ⟨⟨k2,k4,k5,k6,k7,rfl⟩,sm,hc1,es,la,hr1,hg,hla0,hn⟩
  refine ⟨_,rfl,_,rfl,_,rfl,r,_,rfl,SqL.of hr1,fun e he=>q e _ ((es ++ [la]).take m) (sm.free he) (sm.trans (aA he _)) ?_ (hg.take hm1) (by rw [List.length_take]; omega)⟩
  rw [az,vZ,List.map_take]
theorem Ca {ds:List Int} (hg:bC ds) : ∀ (i:Nat) (d:Int),ds[i]?=some d→d≤(i:Int)
 | 0,d,h=>by
  have:=Option.some.inj (h.symm.trans hg.1)
  omega
 | i + 1,d,h=>by
  have hl:=(List.getElem?_eq_some_iff.mp h).1
  have e:=List.getElem?_eq_getElem (show i < ds.length by omega)
  have h1:=Ca hg i _ e
  have h2:=hg.2 i _ d e h
  omega
def eV (ds:List Int) (k:Nat) (d:Int):Nat:=k + 1 + run ds (k + 1) d
theorem vo {ds:List Int} {k e:Nat} {d:Int} (hk:k < e) (he:e≤ds.length) (h1 : ∀ m y,k < m→m < e→ds[m]?=some y→d < y) (h2 : ∀ y,ds[e]?=some y→y≤d):eV ds k d=e:=by
 unfold eV
 have:run ds (k + 1) d=e - (k + 1):=by
  refine um _ _ (fun m hm=>?_) (fun x ex=>?_)
  ·have e1:=List.getElem?_eq_getElem (show k + 1 + m < ds.length by omega)
   exact ⟨_,e1,h1 _ _ (by omega) (by omega) e1⟩
  ·rw [show k + 1 + (e - (k + 1))=e by omega] at ex
   have:=h2 x ex
   omega
 omega
def rW (ds:List Int) (i:Nat) (ps:List Nat):Prop:=(i=0∧ps=[]) ∨ ∃ d:Int,0 < i∧ds[i - 1]?=some d∧(ps.length:Int)=d + 1 ∧ ∀ (j:Nat) (n:Nat),ps[j]?=some n→UpN ds (i - 1) (j:Int) n
theorem rW.all {ds:List Int} {i:Nat} {ps:List Nat} (h:rW ds i ps) {j n:Nat} (e:ps[j]?=some n):0 < i∧UpN ds (i - 1) (j:Int) n:=by
 rcases h with ⟨_,rfl⟩ | ⟨d,h0,_,_,h⟩
 ·simp at e
 ·exact ⟨h0,h j n e⟩
theorem rW.inj {ds:List Int} {i:Nat} {ps:List Nat} (h:rW ds i ps) {j j' n:Nat} (e:ps[j]?=some n) (e':ps[j']?=some n):j=j':=by
 have h1:=(h.all e).2.2.1
 have h2:=(h.all e').2.2.1
 rw [h1] at h2
 have:=Option.some.inj h2
 omega
def Hz (ds:List Int) (i:Nat) (ps:List Nat) (es:List Int):Prop:=es.length=ds.length ∧ ∀ (k:Nat) (e:Int),es[k]?=some e→(k∈ps∨i≤k→e=(ds.length:Int))∧(k ∉ ps→k < i → ∃ d,ds[k]?=some d∧e=((eV ds k d:Nat):Int))
def DX:Sp:=fun vs H Q _ => ∃ (p:Addr) (ds:List Int),vs=[.ref p]∧H p=some (.lst (ds.map V.int))∧bC ds∧ds.length≤2048 ∧ ∀ (r el ol en:Addr) (H':Hp) (xs ys:List V) (es:List Int),aR H H'→H' r=some (.tup [.ref el,.ref ol,.ref en])→H' el=some (.lst xs)→H' ol=some (.lst ys)→H' en=some (.lst (es.map V.int))→xs.length=ds.length→ys.length=ds.length→es.length=ds.length→(∀ k v,xs[k]?=some v→ElV ds k v)→(∀ k v,ys[k]?=some v→OlV ds k v)→(∀ (k:Nat) (e:Int),es[k]?=some e → ∃ d,ds[k]?=some d∧e=((eV ds k d:Nat):Int))→Q (.ref r) H'
theorem uF (T:Tx K mg a):aX P w K mg base CX0 1 a.f_law_family a.fd_law_family ["_law_depths_here"] DX:=by
 refine T.D_law_family.F.ok bZ (fun vs H Q E h=>?_) (fun cdv A outer s H vs Q E hr h=>?_)
 ·obtain ⟨p,ds,rfl,_⟩:=h
  rfl
 obtain ⟨p,ds,rfl,hp,hg,hl,q⟩:=h
 refine ⟨_,(aj (aG (i:=1) bZ.nd rfl (Or.inl rfl) (bT ao))
  (aj (aG (i:=2) bZ.nd rfl (Or.inl rfl) (bT ao))
  (aj (aG (i:=3) bZ.nd rfl (Or.inl rfl) (aF ug (bT (aa (aY aQ rfl T.b_len Tw.bW (aa (pv 0) ao)) ao)) (aY aQ rfl T.b_len Tw.bW (aa (pv 0) ao))))
  (aj (aG (i:=4) bZ.nd rfl (Or.inl rfl) (bT ao))
  (aj (bV PassesOwn.never rfl (iY rfl T.b_range (aa (aY aQ rfl T.b_len Tw.bW (aa (pv 0) ao)) ao)) (aV (i:=5) bZ.nd rfl (Or.inl rfl)) (aj (aG (i:=6) bZ.nd rfl (Or.inl rfl) cG)
  (aj (gB PassesOwn.never (aK dF (aY aQ rfl T.b_len Tw.bW (aa (pv 4) ao)) (aZ bD (pv 0) (pv 5) (fun _ _=>rfl)) (aM _)) (aj (aG (i:=6) bZ.nd rfl (Or.inl rfl) (Ed PySem.F.plainAttrs_list PySem.F.slot_list_pop PySem.F.type_list_pop Hs (pv 4)))
  (aq (mq (pv 5) (zE (pv 3) (pv 6) set_list)))))
  (aj (bc (eY PySem.F.plainAttrs_list PySem.F.slot_list_append PySem.F.type_list_append bH (pv 2) (aa (pv 6) ao)))
  (aj (bc (eY PySem.F.plainAttrs_list PySem.F.slot_list_append PySem.F.type_list_append bH (pv 1) (aa cG ao)))
  (Gj (aW (aK dF (aY aQ rfl T.b_len Tw.bW (aa (pv 4) ao)) au (aM _)) (aq (mq (aZ bD (pv 4) (vp oO au) (fun _ _=>rfl)) (zE (pv 1) (pv 5) set_list))) aL)
  (aq (bc (eY PySem.F.plainAttrs_list PySem.F.slot_list_append PySem.F.type_list_append bH (pv 4) (aa (pv 5) ao))))))))))
  (aq (aB (mK (aa (pv 1) (aa (pv 2) (aa (pv 3) ao))))))))))),?_⟩
 have ern:(ds.map V.int).length=ds.length:=List.length_map ..
 refine ⟨(by show 0≤sizeLine; decide),fun el hel=>⟨(by show 0≤sizeLine; decide),fun ol hol=>?_⟩⟩
 have s1:=(aA hel (.lst [])).trans (aA hol (.lst []))
 have xel1:=aA hol (.lst []) _ _ (show upd H el (.lst []) el=some (.lst []) from az)
 have xol1:upd (upd H el (.lst [])) ol (.lst []) ol=some (.lst []):=az
 have nlo:el ≠ ol:=aN az hol
 have hol0:=(aA hel (.lst [])).free hol
 generalize upd (upd H el (.lst [])) ol (.lst [])=H1 at *
 refine ⟨_,rfl,p,_,rfl,.inl (SqL.of (s1 _ _ hp)),(by show 1≤sizeLine; decide),fun l1 hl1=>?_⟩
 have s2:=s1.trans (aA hl1 (.lst [.int (((ds.map V.int).length:Nat):Int)]))
 refine ⟨_,rfl,p,_,rfl,.inl (SqL.of (s2 _ _ hp)),l1,(((ds.map V.int).length:Nat):Int),[.int (((ds.map V.int).length:Nat):Int)],rfl,rfl,az,by omega,by omega,?_,fun en hen=>?_⟩
 ·rw [sizeLine_eq,Int.toNat_natCast]
  show 1 * _≤_
  omega
 have e0:(List.replicate (((ds.map V.int).length:Nat):Int).toNat [V.int (((ds.map V.int).length:Nat):Int)]).flatten=(List.replicate ds.length (ds.length:Int)).map V.int:=by
  rw [Int.toNat_natCast,wJ,ern]
 rw [e0]
 have s3:=s2.trans (aA hen (.lst ((List.replicate ds.length (ds.length:Int)).map V.int)))
 have hen0:=s2.free hen
 have xel3:=aA hen (.lst ((List.replicate ds.length (ds.length:Int)).map V.int)) _ _ (aA hl1 (.lst [.int (((ds.map V.int).length:Nat):Int)]) _ _ xel1)
 have xol3:=aA hen (.lst ((List.replicate ds.length (ds.length:Int)).map V.int)) _ _ (aA hl1 (.lst [.int (((ds.map V.int).length:Nat):Int)]) _ _ xol1)
 have xen3:upd (upd H1 l1 (.lst [.int (((ds.map V.int).length:Nat):Int)])) en (.lst ((List.replicate ds.length (ds.length:Int)).map V.int)) en=some (.lst ((List.replicate ds.length (ds.length:Int)).map V.int)):=az
 have nle:el ≠ en:=aN (aA hl1 (.lst [.int (((ds.map V.int).length:Nat):Int)]) _ _ xel1) hen
 have noe:ol ≠ en:=aN (aA hl1 (.lst [.int (((ds.map V.int).length:Nat):Int)]) _ _ xol1) hen
 generalize upd (upd H1 l1 (.lst [.int (((ds.map V.int).length:Nat):Int)])) en (.lst ((List.replicate ds.length (ds.length:Int)).map V.int))=H3 at *
 refine ⟨(by show 0≤sizeLine; decide),fun pa hpa=>?_⟩
 have s4:=s3.trans (aA hpa (.lst []))
 have hpa0:=s3.free hpa
 have nlp:el ≠ pa:=aN xel3 hpa
 have nop:ol ≠ pa:=aN xol3 hpa
 have nep:en ≠ pa:=aN xen3 hpa
 have xel4:=aA hpa (.lst []) _ _ xel3
 have xol4:=aA hpa (.lst []) _ _ xol3
 have xen4:=aA hpa (.lst []) _ _ xen3
 have xpa4:upd H3 pa (.lst []) pa=some (.lst []):=az
 generalize upd H3 pa (.lst [])=H4 at *
 refine ⟨_,rfl,p,_,rfl,.inl (SqL.of (s4 _ _ hp)),(ds.length:Int),congrArg (fun n:Nat=>[V.int (n:Int)]) ern,by omega,by omega,?_⟩
 rw [Int.toNat_natCast]
 have pv : ∀ ps:List Nat,(ps.map fun n:Nat=>V.int (n:Int)).length=ps.length:=fun ps=>List.length_map ..
 refine pY (n:=ds.length) (fun i σ X=>(∃ k5 k6,σ=[some (.ref p),some (.ref el),some (.ref ol),some (.ref en),some (.ref pa),k5,k6])∧aR H X ∧ ∃ (xs ys:List V) (es:List Int) (ps:List Nat),X el=some (.lst xs)∧X ol=some (.lst ys)∧X en=some (.lst (es.map V.int))∧X pa=some (.lst (ps.map fun n:Nat=>V.int (n:Int)))∧xs.length=i∧ys.length=i∧(∀ k v,xs[k]?=some v→ElV ds k v)∧(∀ k v,ys[k]?=some v→OlV ds k v)∧rW ds i ps∧Hz ds i ps es) ⟨⟨none,none,rfl⟩,s4,[],[],_,[],xel4,xol4,xen4,xpa4,rfl,rfl,fun k v e=>by simp at e,fun k v e=>by simp at e,.inl ⟨rfl,rfl⟩,by rw [List.length_replicate],fun k e he=>⟨fun _=>?_,fun _ z=>absurd z (Nat.not_lt_zero _)⟩⟩ ?_ ?_
 ·rw [List.getElem?_replicate] at he
  split at he
  ·exact (Option.some.inj he).symm
  ·cases he
 ·rintro i σ X hi ⟨⟨k5,k6,rfl⟩,sm,xs,ys,es,ps,xel,xol,xen,xpa,hxl,hyl,hxs,hys,hps,hes⟩
  rw [Int.zero_add]
  have hdi:=List.getElem?_eq_getElem hi
  generalize ds[i]=d at *
  have hd0:=cP hg hdi
  have hdp:d≤(ps.length:Int)∧(ps.length=0 ↔ i=0):=by
   rcases hps with ⟨rfl,rfl⟩ | ⟨d',h0,h1,h2,_⟩
   ·have:=Option.some.inj (hdi.symm.trans hg.1)
    exact ⟨by simp; omega,by simp⟩
   ·have:=hg.2 (i - 1) d' d h1 (by rw [show i - 1 + 1=i by omega]; exact hdi)
    have:=cP hg h1
    omega
  have hat:atI (ds.map V.int) (i:Int)=some (.int d):=ig hdi
  obtain ⟨dn,hdn⟩ : ∃ dn:Nat,d=(dn:Int):=⟨d.toNat,by omega⟩
  have hdle:=Ca hg i d hdi
  have gone : ∀ c:Nat,c≤ps.length→(if c=ps.length then V.non else ((ps[c]?).map fun n:Nat=>V.int (n:Int)).getD .non)=(if c=ps.length then V.non else ((ps[c]?).map fun n:Nat=>V.int (n:Int)).getD .non):=fun _ _=>rfl
  refine ⟨fun m σ Y => ∃ (c:Nat) (es':List Int),m=c∧dn≤c∧c≤ps.length∧σ=[some (.ref p),some (.ref el),some (.ref ol),some (.ref en),some (.ref pa),some (.int (i:Int)),some (if c=ps.length then V.non else ((ps[c]?).map fun n:Nat=>V.int (n:Int)).getD .non)]∧aR H Y∧Y el=some (.lst xs)∧Y ol=some (.lst ys)∧Y en=some (.lst (es'.map V.int))∧Y pa=some (.lst ((ps.take c).map fun n:Nat=>V.int (n:Int)))∧es'.length=ds.length ∧ ∀ (k:Nat) (e:Int),es'[k]?=some e→(k∈ps.take c∨i≤k→e=(ds.length:Int))∧(k ∉ ps.take c→k < i → ∃ d,ds[k]?=some d∧e=((eV ds k d:Nat):Int)),⟨_,ps.length,es,rfl,by omega,Nat.le_refl _,by (rw [if_pos rfl]; rfl),sm,xel,xol,xen,by rw [List.take_length]; exact xpa,hes.1,by rw [List.take_length]; exact hes.2⟩,?_⟩
  rintro m σ Y ⟨c,es',hmc,hdc,hcl,rfl,smY,yel,yol,yen,ypa,hel',hes'⟩
  have hplc:((ps.take c).map fun n:Nat=>V.int (n:Int)).length=c:=by rw [List.length_map,List.length_take]; omega
  refine ⟨_,rfl,pa,_,rfl,.inl (SqL.of ypa),_,rfl,_,rfl,p,_,_,_,rfl,rfl,SqL.of (smY _ _ hp),hat,_,_,rfl,rfl,_,rfl,aO (fun cc=>?_) fun cc=>?_⟩
  ·have cc:d < ((((ps.take c).map fun n:Nat=>V.int (n:Int)).length:Nat):Int):=of_decide_eq_true cc
   rw [hplc] at cc
   have hgc:=List.getElem?_eq_getElem (show c - 1 < ps.length by omega)
   generalize ps[c - 1]=g at *
   have hgt:(ps.take c)[c - 1]?=some g:=by rw [List.getElem?_take_of_lt (by omega)]; exact hgc
   obtain ⟨hi0,hup⟩:=hps.all hgc
   have hgl:g < ds.length:=(List.getElem?_eq_some_iff.mp hup.2.1).1
   have elast:((ps.take c).map fun n:Nat=>V.int (n:Int))[((ps.take c).map fun n:Nat=>V.int (n:Int)).length - 1]?=some (.int (g:Int)):=by
    rw [hplc,List.getElem?_map,hgt]
    rfl
   refine ⟨_,fun σ' H2 z=>z,_,rfl,.inl ⟨rfl,_,SqL.of ypa⟩,pa,_,_,rfl,rfl,ypa,elast,?_⟩
   have edl:((ps.take c).map fun n:Nat=>V.int (n:Int)).dropLast=(ps.take (c - 1)).map fun n:Nat=>V.int (n:Int):=by
    rw [List.dropLast_eq_take,hplc,← List.map_take,List.take_take,Nat.min_eq_left (by omega)]
   rw [edl]
   have yen2:upd Y pa (.lst ((ps.take (c - 1)).map fun n:Nat=>V.int (n:Int))) en=some (.lst (es'.map V.int)):=by rw [aJ nep]; exact yen
   refine ⟨_,rfl,_,rfl,_,rfl,en,_,_,g,rfl,rfl,yen2,wH (by rw [List.length_map]; omega),?_⟩
   have ees:(es'.map V.int).set g (V.int (i:Int))=(es'.set g (i:Int)).map V.int:=by rw [List.map_set]
   rw [ees]
   have hnin:g ∉ ps.take (c - 1):=fun z=>by
    obtain ⟨j,hj⟩:=List.getElem?_of_mem z
    have hjl:=(List.getElem?_eq_some_iff.mp hj).1
    rw [List.length_take] at hjl
    rw [List.getElem?_take_of_lt (by omega)] at hj
    have:=hps.inj hj hgc
    omega
   refine ⟨c - 1,by omega,c - 1,es'.set g (i:Int),rfl,by omega,by omega,?_,bG (bG smY hpa0 _) hen0 _,?_,?_,az,?_,by rw [List.length_set]; exact hel',fun k e he=>?_⟩
   ·rw [if_neg (show ¬ c - 1=ps.length by omega),hgc]
    rfl
   ·rw [aJ nle,aJ nlp]
    exact yel
   ·rw [aJ noe,aJ nop]
    exact yol
   ·rw [aJ nep.symm,az]
   ·by_cases z:k=g
    ·subst z
     rw [List.getElem?_set_self (by omega)] at he
     cases he
     refine ⟨fun y=>?_,fun _ _=>?_⟩
     ·rcases y with y | y
      ·exact absurd y hnin
      ·have:=hup.1
       omega
     ·refine ⟨_,hup.2.1,?_⟩
      rw [vo (e:=i) (by have:=hup.1; omega) (by omega) (fun m y m1 m2 ey=>hup.2.2 m y m1 (by omega) ey) (fun y ey=>?_)]
      have:=Option.some.inj (hdi.symm.trans ey)
      omega
    ·rw [List.getElem?_set_ne (Ne.symm z)] at he
     obtain ⟨h1,h2⟩:=hes' k e he
     have key:k∈ps.take c ↔ k∈ps.take (c - 1):=by
      rw [show c=c - 1 + 1 by omega,List.take_add_one,hgc]
      simp [z]
     rw [key] at h1 h2
     exact ⟨h1,h2⟩
  ·have cc : ¬ d < ((((ps.take c).map fun n:Nat=>V.int (n:Int)).length:Nat):Int):=fun z=>cc (decide_eq_true z)
   rw [hplc] at cc
   have hcd:c=dn:=by omega
   subst hcd
   have hgo:OlV ds i (if c=ps.length then V.non else ((ps[c]?).map fun n:Nat=>V.int (n:Int)).getD .non):=by
    by_cases z:c=ps.length
    ·rw [if_pos z]
     refine ⟨d,hdi,.inr ⟨rfl,fun j j1 j2=>?_⟩⟩
     rcases hps with ⟨rfl,_⟩ | ⟨d',h0,h1,h2,_⟩
     ·omega
     ·have:j ≠ i - 1:=fun y=>by
       subst y
       have:=Option.some.inj (j2.symm.trans h1)
       omega
      exact ⟨i - 1,d',by omega,by omega,h1,by omega⟩
    ·rw [if_neg z]
     have hgc:=List.getElem?_eq_getElem (show c < ps.length by omega)
     obtain ⟨hi0,hup⟩:=hps.all hgc
     rw [hgc]
     exact ⟨d,hdi,.inl ⟨_,rfl,by have:=hup.1; omega,by rw [hdn]; exact hup.2.1,fun m y m1 m2 ey=>by rw [hdn]; exact hup.2.2 m y m1 (by omega) ey⟩⟩
   generalize (if c=ps.length then V.non else ((ps[c]?).map fun n:Nat=>V.int (n:Int)).getD .non)=go at *
   refine ⟨_,rfl,.inl ⟨rfl,_,SqL.of yol⟩,_,rfl,ol,_,_,rfl,rfl,yol,by rw [hyl,sizeLine_eq]; omega,?_⟩
   have xel5:upd Y ol (.lst (ys ++ [go])) el=some (.lst xs):=by rw [aJ nlo]; exact yel
   refine ⟨_,rfl,.inl ⟨rfl,_,SqL.of xel5⟩,el,_,_,rfl,rfl,xel5,by rw [hxl,sizeLine_eq]; omega,?_⟩
   have s6:=bG (bG smY hol0 (.lst (ys ++ [go]))) hel (.lst (xs ++ [.non]))
   have zel:upd (upd Y ol (.lst (ys ++ [go]))) el (.lst (xs ++ [.non])) el=some (.lst (xs ++ [.non])):=az
   have zol:upd (upd Y ol (.lst (ys ++ [go]))) el (.lst (xs ++ [.non])) ol=some (.lst (ys ++ [go])):=by rw [aJ nlo.symm,az]
   have zen:upd (upd Y ol (.lst (ys ++ [go]))) el (.lst (xs ++ [.non])) en=some (.lst (es'.map V.int)):=by rw [aJ nle.symm,aJ noe.symm]; exact yen
   have zpa:upd (upd Y ol (.lst (ys ++ [go]))) el (.lst (xs ++ [.non])) pa=some (.lst ((ps.take c).map fun n:Nat=>V.int (n:Int))):=by rw [aJ nlp.symm,aJ nop.symm]; exact ypa
   generalize upd (upd Y ol (.lst (ys ++ [go]))) el (.lst (xs ++ [.non]))=Z at *
   refine ⟨fun σ' W=>σ'=[some (.ref p),some (.ref el),some (.ref ol),some (.ref en),some (.ref pa),some (.int (i:Int)),some go]∧aR H W∧(∃ v,W el=some (.lst (xs ++ [v]))∧ElV ds i v)∧W ol=some (.lst (ys ++ [go]))∧W en=some (.lst (es'.map V.int))∧W pa=some (.lst ((ps.take c).map fun n:Nat=>V.int (n:Int))),?_,?_⟩
   ·refine ⟨_,rfl,pa,_,rfl,.inl (SqL.of zpa),_,_,rfl,rfl,_,rfl,aO (fun c0=>?_) fun c0=>?_⟩
    ·have c0:(0:Int) < ((((ps.take c).map fun n:Nat=>V.int (n:Int)).length:Nat):Int):=of_decide_eq_true c0
     rw [hplc] at c0
     have hgc:=List.getElem?_eq_getElem (show c - 1 < ps.length by omega)
     generalize ps[c - 1]=g at *
     obtain ⟨hi0,hup⟩:=hps.all hgc
     have elast:atI ((ps.take c).map fun n:Nat=>V.int (n:Int)) (-1)=some (.int (g:Int)):=by
      rw [show c=c - 1 + 1 by omega,List.take_add_one,hgc,List.map_append]
      exact nJ _ _
     refine ⟨_,rfl,_,rfl,pa,_,_,_,rfl,rfl,SqL.of zpa,elast,_,rfl,_,rfl,el,_,_,i,rfl,rfl,zel,wH (by rw [List.length_append,hxl]; simp),?_⟩
     refine ⟨rfl,bG s6 hel _,⟨.int (g:Int),?_,.inr ⟨g,d,rfl,hdi,by omega,?_⟩⟩,?_,?_,?_⟩
     ·rw [az,List.set_append_right _ _ (by omega),hxl,Nat.sub_self]
      rfl
     ·refine ⟨by have:=hup.1; omega,by rw [show d - 1=((c - 1:Nat):Int) by omega]; exact hup.2.1,fun m y m1 m2 ey=>?_⟩
      rcases Nat.lt_or_ge m i with z | z
      ·have:=hup.2.2 m y m1 (by omega) ey
       omega
      ·have:m=i:=by omega
       subst this
       have:=Option.some.inj (hdi.symm.trans ey)
       omega
     ·rw [aJ nlo.symm]
      exact zol
     ·rw [aJ nle.symm]
      exact zen
     ·rw [aJ nlp.symm]
      exact zpa
    ·have c0 : ¬ (0:Int) < ((((ps.take c).map fun n:Nat=>V.int (n:Int)).length:Nat):Int):=fun z=>c0 (decide_eq_true z)
     rw [hplc] at c0
     have hi0:i=0:=by
      rcases Nat.eq_zero_or_pos i with z | z
      ·exact z
      ·have:=hg.one z hdi
       omega
     exact ⟨rfl,s6,⟨.non,zel,.inl ⟨hi0,rfl⟩⟩,zol,zen,zpa⟩
   rintro σ' W ⟨rfl,smW,⟨v,wel,hv⟩,wol,wen,wpa⟩
   refine ⟨_,rfl,.inl ⟨rfl,_,SqL.of wpa⟩,_,rfl,pa,_,_,rfl,rfl,wpa,by rw [hplc,sizeLine_eq]; omega,?_⟩
   have snoc : ∀ {us:List V} {u:V} {R:Nat→V→Prop},us.length=i→(∀ k v,us[k]?=some v→R k v)→R i u → ∀ k v,(us ++ [u])[k]?=some v→R k v:=fun {us u R} h1 h2 h3 k v e=>by
    rcases Nat.lt_or_ge k i with z | z
    ·rw [List.getElem?_append_left (by omega)] at e
     exact h2 k v e
    ·have ek:k=i:=by
      have:=(List.getElem?_eq_some_iff.mp e).1
      rw [List.length_append,List.length_singleton] at this
      omega
     subst ek
     rw [List.getElem?_append_right (by omega),h1,Nat.sub_self] at e
     cases e
     exact h3
   refine ⟨⟨_,_,rfl⟩,bG smW hpa0 _,xs ++ [v],ys ++ [go],es',ps.take c ++ [i],by rw [aJ nlp]; exact wel,by rw [aJ nop]; exact wol,by rw [aJ nep]; exact wen,by rw [az,List.map_append]; rfl,by rw [List.length_append,hxl]; rfl,by rw [List.length_append,hyl]; rfl,snoc hxl hxs hv,snoc hyl hys hgo,.inr ⟨d,by omega,by rw [Nat.add_sub_cancel]; exact hdi,by rw [List.length_append,List.length_take]; simp; omega,fun j n e=>?_⟩,hel',fun k e he=>?_⟩
   ·rw [Nat.add_sub_cancel]
    rcases Nat.lt_or_ge j c with z | z
    ·rw [List.getElem?_append_left (by rw [List.length_take]; omega),List.getElem?_take_of_lt z] at e
     obtain ⟨hi0,hup⟩:=hps.all e
     refine ⟨by have:=hup.1; omega,hup.2.1,fun m y m1 m2 ey=>?_⟩
     rcases Nat.lt_or_ge m i with w | w
     ·exact hup.2.2 m y m1 (by omega) ey
     ·have:m=i:=by omega
      subst this
      have:=Option.some.inj (hdi.symm.trans ey)
      omega
    ·have hj:=(List.getElem?_eq_some_iff.mp e).1
     rw [List.length_append,List.length_take,List.length_singleton] at hj
     have:j=c:=by omega
     subst this
     rw [List.getElem?_append_right (by rw [List.length_take]; omega),List.length_take,show j - min j ps.length=0 by omega] at e
     cases e
     rw [← hdn]
     exact UpN.self hdi
   ·obtain ⟨h1,h2⟩:=hes' k e he
    refine ⟨fun y=>?_,fun y1 y2=>?_⟩
    ·rcases y with y | y
     ·rcases List.mem_append.mp y with y | y
      ·exact h1 (.inl y)
      ·rw [List.mem_singleton.mp y] at h1
       exact h1 (.inr (Nat.le_refl _))
     ·exact h1 (.inr (by omega))
    ·refine h2 (fun z=>y1 (List.mem_append.mpr (.inl z))) ?_
     have:k ≠ i:=fun z=>y1 (List.mem_append.mpr (.inr (by rw [z]; exact List.mem_singleton.mpr rfl)))
     omega
 ·rintro σ X ⟨⟨k5,k6,rfl⟩,sm,xs,ys,es,ps,xel,xol,xen,xpa,hxl,hyl,hxs,hys,hps,hes⟩
  refine ⟨_,rfl,_,rfl,_,rfl,(by show 3≤sizeLine; decide),fun r hr'=>?_⟩
  have s9:=aA hr' (.tup [.ref el,.ref ol,.ref en])
  refine q r el ol en _ xs ys es (sm.trans s9) az (s9 _ _ xel) (s9 _ _ xol) (s9 _ _ xen) hxl hyl hes.1 hxs hys fun k e he=>?_
  have hk:k < ds.length:=by rw [← hes.1]; exact (List.getElem?_eq_some_iff.mp he).1
  obtain ⟨h1,h2⟩:=hes.2 k e he
  by_cases z:k∈ps
  ·obtain ⟨j,hj⟩:=List.getElem?_of_mem z
   obtain ⟨hi0,hup⟩:=hps.all hj
   refine ⟨_,hup.2.1,?_⟩
   rw [vo (e:=ds.length) hk (Nat.le_refl _) (fun m y m1 m2 ey=>hup.2.2 m y m1 (by omega) ey) (fun y ey=>?_),h1 (.inl z)]
   have:=(List.getElem?_eq_some_iff.mp ey).1
   omega
  ·exact h2 z hk
theorem UpV.uniq {ds:List Int} {j:Nat} {st:Int} {x y:V} (hg:bC ds) (h:UpV ds j st x) (h':UpV ds j st y):x=y:=by
 obtain ⟨d,hd,h⟩:=h
 obtain ⟨d',hd',h'⟩:=h'
 rw [hd] at hd'
 cases hd'
 rcases h with ⟨rfl,h1⟩ | ⟨i,rfl,h1⟩ <;> rcases h' with ⟨rfl,h2⟩ | ⟨i',rfl,h2⟩
 ·rfl
 ·have:=cP hg h2.2.1
  omega
 ·have:=cP hg h1.2.1
  omega
 ·rw [h1.uniq h2]
theorem Fj.uniq {ds:List Int} {j:Nat} {x y:V} (h:Fj ds j x) (h':Fj ds j y):x=y:=by
 obtain ⟨d,hd,h⟩:=h
 obtain ⟨d',hd',h'⟩:=h'
 rw [hd] at hd'
 cases hd'
 rcases h with ⟨rfl,h1⟩ | ⟨rfl,h1⟩ <;> rcases h' with ⟨rfl,h2⟩ | ⟨rfl,h2⟩
 ·rfl
 ·exact absurd h1 h2
 ·exact absurd h2 h1
 ·rfl
theorem YoV.uniq {ds:List Int} {j:Nat} {x y:V} (h:YoV ds j x) (h':YoV ds j y):x=y:=by
 obtain ⟨d,hd,h⟩:=h
 obtain ⟨d',hd',h'⟩:=h'
 rw [hd] at hd'
 cases hd'
 rcases h with ⟨rfl,h1⟩ | ⟨rfl,h1⟩ <;> rcases h' with ⟨rfl,h2⟩ | ⟨rfl,h2⟩
 ·rfl
 ·exact absurd h1 h2
 ·exact absurd h2 h1
 ·rfl
theorem OlV.uniq {ds:List Int} {j:Nat} {x y:V} (h:OlV ds j x) (h':OlV ds j y):x=y:=by
 obtain ⟨d,hd,h⟩:=h
 obtain ⟨d',hd',h'⟩:=h'
 rw [hd] at hd'
 cases hd'
 have key : ∀ {i:Nat},i < j→ds[i]?=some d→(∀ m y,i < m→m < j→ds[m]?=some y→d < y)→(∀ i,i < j→ds[i]?=some d → ∃ m y,i < m∧m < j∧ds[m]?=some y∧y < d)→False:=fun {i} a1 a2 a3 b=>by
  obtain ⟨m,y,m1,m2,e,hy⟩:=b i a1 a2
  have:=a3 m y m1 m2 e
  omega
 rcases h with ⟨i,rfl,a1,a2,a3⟩ | ⟨rfl,b⟩ <;> rcases h' with ⟨i',rfl,c1,c2,c3⟩ | ⟨rfl,e⟩
 ·rcases Nat.lt_trichotomy i i' with z | z | z
  ·have:=a3 i' d z c1 c2
   omega
  ·rw [z]
  ·have:=c3 i d z a1 a2
   omega
 ·exact (key a1 a2 a3 e).elim
 ·exact (key c1 c2 c3 b).elim
 ·rfl
def wA (ds:List Int) (way:Int) (i j:Nat) (st:Int) (x:V):Prop :=
 (way=0 ∧ ∃ d,ds[i]?=some d∧x=.int (2 * (i:Int) - d))∨(way=1∧Jq ds i x)∨(way=2∧UpV ds i 1 x)∨(way=3∧Fj ds i x)∨(way=4∧YoV ds i x)∨(way=5∧OlV ds i x)∨(way=6∧Jp ds i x)∨(way=7∧UpV ds i st x)∨(way=8∧Hm ds i j x)∨(way=9∧Ab ds i j x)
theorem wA.uniq {ds:List Int} (hg:bC ds) {way st:Int} {i j:Nat} {x y:V} (h:wA ds way i j st x) (h':wA ds way i j st y):x=y:=by
 rcases h with ⟨rfl,h⟩ | ⟨rfl,h⟩ | ⟨rfl,h⟩ | ⟨rfl,h⟩ | ⟨rfl,h⟩ | ⟨rfl,h⟩ | ⟨rfl,h⟩ | ⟨rfl,h⟩ | ⟨rfl,h⟩ | ⟨rfl,h⟩ <;>
  rcases h' with ⟨e,h'⟩ | ⟨e,h'⟩ | ⟨e,h'⟩ | ⟨e,h'⟩ | ⟨e,h'⟩ | ⟨e,h'⟩ | ⟨e,h'⟩ | ⟨e,h'⟩ | ⟨e,h'⟩ | ⟨e,h'⟩ <;> first | (exact absurd e (by decide)) | skip
 ·obtain ⟨d,hd,rfl⟩:=h
  obtain ⟨d',hd',rfl⟩:=h'
  rw [Option.some.inj (hd.symm.trans hd')]
 ·obtain ⟨d,hd,rfl⟩:=h
  obtain ⟨d',hd',rfl⟩:=h'
  rw [Option.some.inj (hd.symm.trans hd')]
 ·exact h.uniq hg h'
 ·exact h.uniq h'
 ·exact h.uniq h'
 ·exact h.uniq h'
 ·obtain ⟨d,hd,rfl⟩:=h
  obtain ⟨d',hd',rfl⟩:=h'
  rw [Option.some.inj (hd.symm.trans hd')]
 ·exact h.uniq hg h'
 ·obtain ⟨d,hd,h⟩:=h
  obtain ⟨d',hd',h'⟩:=h'
  rw [← Option.some.inj (hd.symm.trans hd')] at h'
  rcases h with ⟨h1,rfl⟩ | ⟨h1,rfl⟩ <;> rcases h' with ⟨h2,rfl⟩ | ⟨h2,rfl⟩
  ·rfl
  ·exact absurd h1 h2
  ·exact absurd h2 h1
  ·rfl
 ·obtain ⟨f,g,rfl,u1,u2,u3⟩:=h
  obtain ⟨f',g',rfl,v1,v2,v3⟩:=h'
  have eg:g'=g:=by
   rcases Int.lt_trichotomy g' g with z | z | z
   ·exact (v3 f g z u1 u2).elim
   ·exact z
   ·exact (u3 f' g' z v1 v2).elim
  subst eg
  rw [u1.uniq v1]
theorem wA.kind {ds:List Int} {way st:Int} {i j:Nat} {x:V} (h:wA ds way i j st x):(way=8 ∧ ∃ b,x=.bl b)∨(way ≠ 8∧(x=.non ∨ ∃ n,x=.int n)):=by
 rcases h with ⟨rfl,_,_,rfl⟩ | ⟨rfl,_,_,rfl⟩ | ⟨rfl,_,_,⟨rfl,_⟩ | ⟨_,rfl,_⟩⟩ | ⟨rfl,_,_,⟨rfl,_⟩ | ⟨rfl,_⟩⟩ | ⟨rfl,_,_,⟨rfl,_⟩ | ⟨rfl,_⟩⟩ | ⟨rfl,_,_,⟨_,rfl,_⟩ | ⟨rfl,_⟩⟩ | ⟨rfl,_,_,rfl⟩ | ⟨rfl,_,_,⟨rfl,_⟩ | ⟨_,rfl,_⟩⟩ | ⟨rfl,_,_,⟨_,rfl⟩ | ⟨_,rfl⟩⟩ | ⟨rfl,_,_,rfl,_⟩ <;>
  first | exact .inr ⟨by decide,.inl rfl⟩ | exact .inl ⟨rfl,_,rfl⟩ | exact .inr ⟨by decide,.inr ⟨_,rfl⟩⟩
theorem ElV.eld {ds:List Int} (hg:bC ds) {j:Nat} {v:V} (h:ElV ds j v):UpV ds j 1 v:=by
 rcases h with ⟨rfl,rfl⟩ | ⟨e,d,rfl,hd,_,hu⟩
 ·exact ⟨0,hg.1,.inl ⟨rfl,by decide⟩⟩
 ·exact ⟨d,hd,.inr ⟨e,rfl,hu⟩⟩
theorem yt {ds:List Int} {k e:Nat} {d:Int} (hd:ds[k]?=some d) (hu:UpN ds k (d - 1) e):e < k:=by
 rcases Nat.lt_or_ge e k with z | z
 ·exact z
 ·have h1:=hu.1
  have:e=k:=by omega
  subst this
  have:=Option.some.inj (hu.2.1.symm.trans hd)
  omega
def JM:Sp:=fun vs H Q _ => ∃ (r:Addr) (ds:List Int) (xs:List V) (j:Nat) (st:Int),vs=[.ref r,.int (j:Int),.int st]∧H r=some (.lst xs)∧xs.length=ds.length∧(∀ k v,xs[k]?=some v→ElV ds k v)∧bC ds∧j < ds.length∧0≤st ∧ ∀ x,UpV ds j st x→Q x H
theorem Dj (T:Tx K mg a):aX P w K mg base CX0 1 a.f_law_up a.fd_law_up ["_law_elders", "_law_node", "_law_steps"] JM:=by
 refine T.D_law_up.F.ok p8 (fun vs H Q E h=>?_) (fun cdv A outer s H vs Q E hr h=>?_)
 ·obtain ⟨r,ds,xs,j,st,rfl,_⟩:=h
  rfl
 obtain ⟨r,ds,xs,j,st,rfl,hx,hxl,hall,hg,hj,hs0,q⟩:=h
 refine ⟨_,(aj (gB PassesOwn.never (PW.pt (ju (aK dF (pv 2) au (aM _)) (gY (gP (vX (pv 1)))))) (aj (aG (i:=1) p8.nd rfl (Or.inl rfl) (aZ bD (pv 0) (pv 1) (fun _ _=>rfl)))
  (aq (aG (i:=2) p8.nd rfl (Or.inl rfl) (aF bB (pv 2) au)))))
  (aq (aB (pv 1)))),?_⟩
 have hdj:=List.getElem?_eq_getElem hj
 generalize ds[j]=d at *
 refine ⟨fun m σ X=>X=H ∧ ∃ (v:V) (s:Nat),σ=[some (.ref r),some v,some (.int (s:Int))]∧m=s∧(s:Int)≤st∧UpV ds j (st - s) v,⟨_,rfl,_,st.toNat,by rw [show ((st.toNat:Nat):Int)=st by omega]; rfl,rfl,by omega,d,hdj,.inr ⟨j,rfl,by rw [show d - (st - ((st.toNat:Nat):Int))=d by omega]; exact UpN.self hdj⟩⟩,?_⟩
 rintro m σ X ⟨rfl,v,s,rfl,hms,hst,d',hd',hv⟩
 rw [hdj] at hd'
 cases hd'
 refine ⟨_,rfl,_,_,rfl,rfl,_,rfl,aO (fun c=>?_) fun c=>?_⟩
 ·have c:(0:Int) < (s:Int):=of_decide_eq_true c
  rcases hv with ⟨rfl,hv⟩ | ⟨n,rfl,hu⟩
  ·refine ⟨_,rfl,_,rfl,cW ⟨_,rfl,q _ ⟨d,hdj,.inl ⟨rfl,by omega⟩⟩⟩⟩
  ·have hn:=(List.getElem?_eq_some_iff.mp hu.2.1).1
   have hxn:=List.getElem?_eq_getElem (show n < xs.length by omega)
   have hE:=hall n _ hxn
   generalize xs[n]=ve at *
   refine ⟨_,rfl,_,rfl,fK ⟨_,fun σ' H2 z=>z,_,rfl,_,rfl,r,_,_,_,rfl,rfl,SqL.of hx,lN hxn,_,rfl,_,_,rfl,rfl,s - 1,by omega,rfl,ve,s - 1,by rw [show ((s - 1:Nat):Int)=(s:Int) - 1 by omega]; rfl,rfl,by omega,d,hdj,?_⟩⟩
   rcases hE with ⟨rfl,rfl⟩ | ⟨e,d2,rfl,hd2,_,hup⟩
   ·have:=Option.some.inj (hg.1.symm.trans hu.2.1)
    exact .inl ⟨rfl,by omega⟩
   ·have e2:=Option.some.inj (hd2.symm.trans hu.2.1)
    subst e2
    refine .inr ⟨e,rfl,?_⟩
    rw [show d - (st - ((s - 1:Nat):Int))=d - (st - (s:Int)) - 1 by omega]
    exact hu.trans hup
 ·have c : ¬ (0:Int) < (s:Int):=fun z=>c (decide_eq_true z)
  have hs:(s:Int)=0:=by omega
  rw [hs,Int.sub_zero] at hv
  exact cW ⟨_,rfl,q _ ⟨d,hdj,hv⟩⟩
def GC:Sp:=fun vs H Q _ => ∃ (r:Addr) (ds:List Int) (xs:List V) (i j:Nat),vs=[.ref r,.int (i:Int),.int (j:Int)]∧H r=some (.lst xs)∧xs.length=ds.length∧(∀ k v,xs[k]?=some v→ElV ds k v)∧bC ds∧i < ds.length∧j < ds.length ∧ ∀ x,Ab ds i j x→Q x H
theorem Hj {ds:List Int} {i c y:Nat} {dc gy:Int} (h:UpN ds i dc c) (h':UpN ds i gy y) (hy:y < c):gy < dc:=h'.2.2 c dc hy h.1 h.2.1
theorem Ha {ds:List Int} {i c y e:Nat} {dc gy:Int} (h:UpN ds i dc c) (he:UpN ds c (dc - 1) e) (h':UpN ds i gy y) (hy:y < c):y≤e:=by
 have h1:=Hj h h' hy
 have h2:=h.trans he
 rcases Nat.lt_or_ge e y with z | z
 ·have:=h2.2.2 y gy z h'.1 h'.2.1
  omega
 ·exact z
theorem yj (T:Tx K mg a):aX P w K mg base CX0 1 a.f_law_both a.fd_law_both ["_law_elders", "_law_one", "_law_other"] GC:=by
 refine T.D_law_both.F.ok kJ (fun vs H Q E h=>?_) (fun cdv A outer s H vs Q E hr h=>?_)
 ·obtain ⟨r,ds,xs,i,j,rfl,_⟩:=h
  rfl
 obtain ⟨r,ds,xs,i,j,rfl,hx,hxl,hall,hg,hi,hj,q⟩:=h
 refine ⟨_,(aj (gB PassesOwn.never (aK yS (pv 1) (pv 2) (aM _)) (aq (aW (aK dF (pv 1) (pv 2) (aM _)) (aq (aG (i:=1) kJ.nd rfl (Or.inl rfl) (aZ bD (pv 0) (pv 1) (fun _ _=>rfl)))) (aq (aG (i:=2) kJ.nd rfl (Or.inl rfl) (aZ bD (pv 0) (pv 2) (fun _ _=>rfl)))))))
  (aq (aB (pv 1)))),?_⟩
 refine ⟨fun m σ X=>X=H ∧ ∃ (b c:Nat) (db dc:Int),σ=[some (.ref r),some (.int (b:Int)),some (.int (c:Int))]∧m=b + c∧UpN ds i db b∧UpN ds j dc c ∧ ∀ (y:Nat) (gy:Int),UpN ds i gy y→UpN ds j gy y→y≤b∧y≤c,⟨_,rfl,i,j,_,_,rfl,rfl,UpN.self (List.getElem?_eq_getElem hi),UpN.self (List.getElem?_eq_getElem hj),fun y gy h1 h2=>⟨h1.1,h2.1⟩⟩,?_⟩
 rintro m σ X ⟨rfl,b,c,db,dc,rfl,hm,hb,hc,hno⟩
 have hbl:=(List.getElem?_eq_some_iff.mp hb.2.1).1
 have hcl:=(List.getElem?_eq_some_iff.mp hc.2.1).1
 refine ⟨_,rfl,_,rfl,rfl,_,rfl,?_⟩
 by_cases e:b=c
 ·subst e
  refine uZ rfl ⟨_,rfl,q _ ⟨b,db,rfl,hb,?_,fun y gy hgy u1 u2=>?_⟩⟩
  ·rw [Option.some.inj (hb.2.1.symm.trans hc.2.1)]
   exact hc
  ·have h1:=(hno y gy u1 u2).1
   rcases Nat.lt_or_ge y b with z | z
   ·have:=Hj hb u1 z
    omega
   ·have:y=b:=by omega
    subst this
    have:=Option.some.inj (hb.2.1.symm.trans u1.2.1)
    omega
 ·rw [decide_eq_false (show ¬ V.int (b:Int)=V.int (c:Int) from fun z=>e (by have:=V.int.inj z; omega))]
  refine fK ⟨_,fun σ' H2 z=>z,_,rfl,_,rfl,_,_,rfl,rfl,_,rfl,aO (fun cc=>?_) fun cc=>?_⟩
  ·have cc:(c:Int) < (b:Int):=of_decide_eq_true cc
   have hxb:=List.getElem?_eq_getElem (show b < xs.length by omega)
   have hE:=hall b _ hxb
   generalize xs[b]=ve at *
   rcases hE with ⟨z,_⟩ | ⟨x,d2,rfl,hd2,_,hup⟩
   ·omega
   have:=Option.some.inj (hd2.symm.trans hb.2.1)
   subst this
   have hlt:=yt hd2 hup
   exact ⟨_,rfl,_,rfl,r,_,_,_,rfl,rfl,SqL.of hx,lN hxb,x + c,by omega,rfl,x,c,_,dc,rfl,rfl,hb.trans hup,hc,fun y gy u1 u2=>⟨Ha hb hup u1 (by have:=(hno y gy u1 u2).2; omega),(hno y gy u1 u2).2⟩⟩
  ·have cc : ¬ (c:Int) < (b:Int):=fun z=>cc (decide_eq_true z)
   have hxc:=List.getElem?_eq_getElem (show c < xs.length by omega)
   have hE:=hall c _ hxc
   generalize xs[c]=ve at *
   rcases hE with ⟨z,_⟩ | ⟨x,d2,rfl,hd2,_,hup⟩
   ·omega
   have:=Option.some.inj (hd2.symm.trans hc.2.1)
   subst this
   have hlt:=yt hd2 hup
   exact ⟨_,rfl,_,rfl,r,_,_,_,rfl,rfl,SqL.of hx,lN hxc,b + x,by omega,rfl,b,x,db,_,rfl,rfl,hb,hc.trans hup,fun y gy u1 u2=>⟨(hno y gy u1 u2).1,Ha hc hup u2 (by have:=(hno y gy u1 u2).1; omega)⟩⟩
structure Fam (H:Hp) (p fm el ol en:Addr) (ds:List Int) (xs ys:List V) (es:List Int):Prop where
 deps:H p=some (.lst (ds.map V.int))
 tup:H fm=some (.tup [.ref el,.ref ol,.ref en])
 eld:H el=some (.lst xs)
 old:H ol=some (.lst ys)
 end_:H en=some (.lst (es.map V.int))
 lx:xs.length=ds.length
 ly:ys.length=ds.length
 le:es.length=ds.length
 hx : ∀ k v,xs[k]?=some v→ElV ds k v
 hy : ∀ k v,ys[k]?=some v→OlV ds k v
 he : ∀ (k:Nat) (e:Int),es[k]?=some e → ∃ d,ds[k]?=some d∧e=((eV ds k d:Nat):Int)
theorem Fam.kept {H X:Hp} {p fm el ol en:Addr} {ds:List Int} {xs ys:List V} {es:List Int} (h:Fam H p fm el ol en ds xs ys es) (k : ∀ b o,H b=some o→(∀ ps,o ≠ .tbl ps)→X b=some o):Fam X p fm el ol en ds xs ys es :=
 ⟨k _ _ h.deps nofun,k _ _ h.tup nofun,k _ _ h.eld nofun,k _ _ h.old nofun,k _ _ h.end_ nofun,h.lx,h.ly,h.le,h.hx,h.hy,h.he⟩
def Ht:Sp:=fun vs H Q _ => ∃ (p fm ak el ol en:Addr) (ds:List Int) (xs ys:List V) (es:List Int) (way st:Int) (i j:Nat),vs=[.ref p,.ref fm,.ref ak]∧Fam H p fm el ol en ds xs ys es∧H ak=some (.tup [.int way,.int (i:Int),.int (j:Int),.int st])∧bC ds∧ds.length≤2048∧i < ds.length∧j < ds.length∧0≤way∧way < 10∧0≤st ∧ ∀ x H',aR H H'→wA ds way i j st x→Q x H'
theorem Ae (T:Tx K mg a):aX P w K mg base CX0 2 a.f_law_due a.fd_law_due ["_law_depths_here", "_law_family_here", "_law_ask"] Ht:=by
 refine T.D_law_due.F.ok dh (fun vs H Q E h=>?_) (fun cdv A outer s H vs Q E hr h=>?_)
 ·obtain ⟨p,fm,ak,el,ol,en,ds,xs,ys,es,way,st,i,j,rfl,_⟩:=h
  rfl
 obtain ⟨p,fm,ak,el,ol,en,ds,xs,ys,es,way,st,i,j,rfl,hF,hak,hg,hdl,hi,hj,hw0,hw1,hst,q⟩:=h
 refine ⟨_,(aj (mq (pv 2) (ik rfl (bw (aV (i:=3) dh.nd rfl (Or.inl rfl)) (bw (aV (i:=4) dh.nd rfl (Or.inl rfl)) (bw (aV (i:=5) dh.nd rfl (Or.inl rfl)) (bw (aV (i:=6) dh.nd rfl (Or.inl rfl)) fG))))))
  (aj (mq (pv 1) (ik rfl (bw (aV (i:=7) dh.nd rfl (Or.inl rfl)) (bw (aV (i:=8) dh.nd rfl (Or.inl rfl)) (bw (aV (i:=9) dh.nd rfl (Or.inl rfl)) fG)))))
  (aj (aW (aK bJ (pv 3) au (aM _)) (aq (aB (aF bB (aF bR au (pv 4)) (aZ bD (pv 0) (pv 4) (fun _ _=>rfl))))) aL)
  (aj (aW (aK bJ (pv 3) au (aM _)) (aq (aB (aZ bD (pv 0) (pv 4) (fun _ _=>rfl)))) aL)
  (aj (aW (aK bJ (pv 3) au (aM _)) (aq (aB (aZ bD (pv 7) (pv 4) (fun _ _=>rfl)))) aL)
  (aj (aW (aK bJ (pv 3) au (aM _)) (aq (aB (aZ bD (bT (aa cG (aa (aF bj (pv 4) au) ao))) (dB pB rfl T.b_int Tw.wN (aa (eH dF (aZ bD (pv 9) (pv 4) (fun _ _=>rfl)) (aF bj (pv 4) au) (aM _)) ao)) (fun _ _=>rfl)))) aL)
  (aj (aW (aK bJ (pv 3) au (aM _)) (aq (aB (aZ bD (bT (aa cG (aa (aZ bD (pv 9) (pv 4) (fun _ _=>rfl)) ao))) (dB pB rfl T.b_int Tw.wN (aa (oV (eH bJ (aZ bD (aF iD (pv 0) (bT (aa au ao))) (aZ bD (pv 9) (pv 4) (fun _ _=>rfl)) (fun _ _=>rfl)) (aZ bD (pv 0) (pv 4) (fun _ _=>rfl)) (aM _)) (pO (eH dF (pv 4) au (aM _)))) ao)) (fun _ _=>rfl)))) aL)
  (aj (aW (aK bJ (pv 3) au (aM _)) (aq (aB (aZ bD (pv 8) (pv 4) (fun _ _=>rfl)))) aL)
  (aj (aW (aK bJ (pv 3) au (aM _)) (aq (aB (aF bB (aF bB (aZ bD (pv 9) (pv 4) (fun _ _=>rfl)) (pv 4)) au))) aL)
  (aj (aW (aK bJ (pv 3) au (aM _)) (aq (aB (aD T.D_law_up (Dj T) (by decide) hr aH rfl (aa (pv 7) (aa (pv 4) (aa (pv 6) ao)))))) aL)
  (aj (aW (aK bJ (pv 3) au (aM _)) (aq (aB (oV (eH dU (pv 4) (pv 5) (aM _)) (pO (eH ji (pv 5) (aZ bD (pv 9) (pv 4) (fun _ _=>rfl)) (aM _)))))) aL)
  (aq (aB (aD T.D_law_both (yj T) (by decide) hr aH rfl (aa (pv 7) (aa (pv 4) (aa (pv 5) ao))))))))))))))))),?_⟩
 have hdi:=List.getElem?_eq_getElem hi
 generalize ds[i]=d at *
 have hd0:=cP hg hdi
 have hei:=List.getElem?_eq_getElem (show i < es.length by rw [hF.le]; exact hi)
 obtain ⟨d',hd',he⟩:=hF.he i _ hei
 have:=Option.some.inj (hd'.symm.trans hdi)
 subst this
 rw [he] at hei
 clear he
 have hxi:=List.getElem?_eq_getElem (show i < xs.length by rw [hF.lx]; exact hi)
 have hxE:=hF.hx i _ hxi
 have hyi:=List.getElem?_eq_getElem (show i < ys.length by rw [hF.ly]; exact hi)
 have hyE:=hF.hy i _ hyi
 have hxl:i < xs.length:=by rw [hF.lx]; exact hi
 have hyl:i < ys.length:=by rw [hF.ly]; exact hi
 generalize xs[i]=vx at *
 generalize ys[i]=vy at *
 have ixd:atI (ds.map V.int) (i:Int)=some (.int d'):=ig hdi
 have ixe:atI (es.map V.int) (i:Int)=some (.int ((eV ds i d':Nat):Int)):=ig hei
 have hen:i + 1≤eV ds i d'∧eV ds i d'≤ds.length:=⟨by unfold eV; omega,by unfold eV; exact HQ (by omega)⟩
 refine ⟨_,rfl,ak,_,rfl,SqT.of hak,rfl,_,_,rfl,_,_,rfl,_,_,rfl,_,_,rfl,rfl,?_⟩
 refine ⟨_,rfl,fm,_,rfl,SqT.of hF.tup,rfl,_,_,rfl,_,_,rfl,_,_,rfl,rfl,?_⟩
 have rf:=aR.refl H
 have hw:way=0∨way=1∨way=2∨way=3∨way=4∨way=5∨way=6∨way=7∨way=8∨way=9:=by omega
 rcases hw with rfl | rfl | rfl | rfl | rfl | rfl | rfl | rfl | rfl | rfl
 ·exact ⟨_,rfl,rfl,_,rfl,aO (fun _=>⟨_,rfl,_,_,rfl,rfl,.inl ⟨by decide,by decide⟩,_,rfl,_,rfl,p,_,_,_,rfl,rfl,SqL.of hF.deps,ixd,_,_,rfl,rfl,q _ H rf (.inl ⟨rfl,d',hdi,rfl⟩)⟩) fun c=>absurd (by decide) c⟩
 ·exact ⟨_,rfl,rfl,_,rfl,aO (fun z=>absurd z (by decide)) fun _=>⟨_,rfl,rfl,_,rfl,aO (fun _=>⟨_,rfl,_,rfl,p,_,_,_,rfl,rfl,SqL.of hF.deps,ixd,q _ H rf (.inr (.inl ⟨rfl,d',hdi,rfl⟩))⟩) fun c=>absurd (by decide) c⟩⟩
 ·exact ⟨_,rfl,rfl,_,rfl,aO (fun z=>absurd z (by decide)) fun _=>⟨_,rfl,rfl,_,rfl,aO (fun z=>absurd z (by decide)) fun _=>⟨_,rfl,rfl,_,rfl,aO (fun _=>⟨_,rfl,_,rfl,el,_,_,_,rfl,rfl,SqL.of hF.eld,lN hxi,q _ H rf (.inr (.inr (.inl ⟨rfl,hxE.eld hg⟩)))⟩) fun c=>absurd (by decide) c⟩⟩⟩
 ·refine ⟨_,rfl,rfl,_,rfl,aO (fun z=>absurd z (by decide)) fun _=>⟨_,rfl,rfl,_,rfl,aO (fun z=>absurd z (by decide)) fun _=>⟨_,rfl,rfl,_,rfl,aO (fun z=>absurd z (by decide)) fun _=>⟨_,rfl,rfl,_,rfl,aO (fun _=>⟨_,rfl,_,_,rfl,rfl,(by show 2≤sizeLine; decide),fun l hl'=>?_⟩) fun c=>absurd (by decide) c⟩⟩⟩⟩
  have s1:=aA hl' (.lst [.non,.int ((i:Int) + 1)])
  refine ⟨_,rfl,_,rfl,en,_,_,_,rfl,rfl,SqL.of (s1 _ _ hF.end_),ixe,_,rfl,_,_,rfl,rfl,_,_,rfl,rfl,.inr ⟨_,rfl,?_⟩⟩
  have run0:=nG _ (i + 1) (rfl:run ds (i + 1) d'=_)
  by_cases c:((i:Int) + 1) < ((eV ds i d':Nat):Int)
  ·rw [decide_eq_true c]
   refine ⟨l,_,_,_,rfl,rfl,SqL.of az,rfl,q _ _ s1 (.inr (.inr (.inr (.inl ⟨rfl,d',hdi,.inl ⟨rfl,?_⟩⟩))))⟩
   unfold eV at c
   obtain ⟨y,ey,hy⟩:=run0.1 0 (by omega)
   rw [Nat.add_zero] at ey
   have:=hg.2 i d' y hdi ey
   rw [ey]
   exact congrArg some (by omega)
  ·rw [decide_eq_false c]
   refine ⟨l,_,_,_,rfl,rfl,SqL.of az,rfl,q _ _ s1 (.inr (.inr (.inr (.inl ⟨rfl,d',hdi,.inr ⟨rfl,fun z=>?_⟩⟩))))⟩
   unfold eV at c
   have h0:run ds (i + 1) d'=0:=by omega
   rw [h0] at run0
   have:=run0.2 (d' + 1) (by rw [Nat.add_zero]; exact z)
   omega
 ·refine ⟨_,rfl,rfl,_,rfl,aO (fun z=>absurd z (by decide)) fun _=>⟨_,rfl,rfl,_,rfl,aO (fun z=>absurd z (by decide)) fun _=>⟨_,rfl,rfl,_,rfl,aO (fun z=>absurd z (by decide)) fun _=>⟨_,rfl,rfl,_,rfl,aO (fun z=>absurd z (by decide)) fun _=>⟨_,rfl,rfl,_,rfl,aO (fun _=>⟨_,rfl,_,rfl,en,_,_,_,rfl,rfl,SqL.of hF.end_,ixe,(by show 2≤sizeLine; decide),fun l hl'=>?_⟩) fun c=>absurd (by decide) c⟩⟩⟩⟩⟩
  have s1:=aA hl' (.lst [.non,.int ((eV ds i d':Nat):Int)])
  refine ⟨_,rfl,(by show 1≤sizeLine; decide),fun l2 hl2=>?_⟩
  have s2:=s1.trans (aA hl2 (.lst [.int 0]))
  refine ⟨p,l2,_,_,rfl,rfl,s2 _ _ hF.deps,az,?_,fun l3 hl3=>?_⟩
  ·rw [List.length_map,sizeLine_eq]
   show _ + 1≤_
   omega
  have s3:=s2.trans (aA hl3 (.lst (ds.map V.int ++ [.int 0])))
  have xl:upd (upd (upd H l (.lst [.non,.int ((eV ds i d':Nat):Int)])) l2 (.lst [.int 0])) l3 (.lst (ds.map V.int ++ [.int 0])) l=some (.lst [.non,.int ((eV ds i d':Nat):Int)]):=aA hl3 _ _ _ (aA hl2 _ _ _ az)
  have x3:upd (upd (upd H l (.lst [.non,.int ((eV ds i d':Nat):Int)])) l2 (.lst [.int 0])) l3 (.lst (ds.map V.int ++ [.int 0])) l3=some (.lst (ds.map V.int ++ [.int 0])):=az
  generalize upd (upd (upd H l (.lst [.non,.int ((eV ds i d':Nat):Int)])) l2 (.lst [.int 0])) l3 (.lst (ds.map V.int ++ [.int 0]))=X at *
  obtain ⟨z,hz,hzz⟩ : ∃ z:Int,(ds.map V.int ++ [V.int 0])[eV ds i d']?=some (.int z)∧(ds[eV ds i d']?=some z∨(eV ds i d'=ds.length∧z=0)):=by
   rcases Nat.lt_or_ge (eV ds i d') ds.length with c | c
   ·have e:=List.getElem?_eq_getElem c
    exact ⟨_,by rw [List.getElem?_append_left (by rw [List.length_map]; exact c),List.getElem?_map,e]; rfl,.inl e⟩
   ·refine ⟨0,?_,.inr ⟨by omega,rfl⟩⟩
    rw [List.getElem?_append_right (by rw [List.length_map]; exact c),List.length_map,show eV ds i d' - ds.length=0 by omega]
    rfl
  have yes:z=d'→0 < i→wA ds 4 i j st (.int ((eV ds i d':Nat):Int)):=fun e1 e2=>by
   refine (.inr (.inr (.inr (.inr (.inl ⟨rfl,d',hdi,.inl ⟨rfl,?_⟩⟩)))))
   have:=hg.one e2 hdi
   rcases hzz with h | ⟨_,h⟩
   ·rw [e1] at h
    exact h
   ·omega
  have no:z ≠ d'∨i=0→wA ds 4 i j st .non:=fun e1=>by
   refine (.inr (.inr (.inr (.inr (.inl ⟨rfl,d',hdi,.inr ⟨rfl,fun y=>?_⟩⟩)))))
   have y:ds[eV ds i d']?=some d':=y
   have hl:=(List.getElem?_eq_some_iff.mp y).1
   rcases e1 with e1 | e1
   ·rcases hzz with h | ⟨h,_⟩
    ·exact e1 (Option.some.inj (h.symm.trans y))
    ·omega
   ·subst e1
    have h0:=Option.some.inj (hdi.symm.trans hg.1)
    have:=hg.one (show 0 < eV ds 0 d' by omega) y
    omega
  refine ⟨_,rfl,_,rfl,en,_,_,_,rfl,rfl,SqL.of (s3 _ _ hF.end_),ixe,l3,_,_,_,rfl,rfl,SqL.of x3,lN hz,_,rfl,_,rfl,p,_,_,_,rfl,rfl,SqL.of (s3 _ _ hF.deps),ixd,rfl,?_⟩
  by_cases c1:z=d'
  ·rw [decide_eq_true (congrArg V.int c1)]
   refine ⟨_,rfl,fK ⟨_,rfl,_,_,rfl,rfl,.inr ⟨_,rfl,?_⟩⟩⟩
   by_cases c2:(0:Int) < (i:Int)
   ·rw [decide_eq_true c2]
    exact ⟨l,_,_,_,rfl,rfl,SqL.of xl,rfl,q _ _ s3 (yes c1 (by omega))⟩
   ·rw [decide_eq_false c2]
    exact ⟨l,_,_,_,rfl,rfl,SqL.of xl,rfl,q _ _ s3 (no (.inr (by omega)))⟩
  ·rw [decide_eq_false (fun y=>c1 (V.int.inj y))]
   exact ⟨_,rfl,cW (.inr ⟨_,rfl,l,_,_,_,rfl,rfl,SqL.of xl,rfl,q _ _ s3 (no (.inl c1))⟩)⟩
 ·exact ⟨_,rfl,rfl,_,rfl,aO (fun z=>absurd z (by decide)) fun _=>⟨_,rfl,rfl,_,rfl,aO (fun z=>absurd z (by decide)) fun _=>⟨_,rfl,rfl,_,rfl,aO (fun z=>absurd z (by decide)) fun _=>⟨_,rfl,rfl,_,rfl,aO (fun z=>absurd z (by decide)) fun _=>⟨_,rfl,rfl,_,rfl,aO (fun z=>absurd z (by decide)) fun _=>⟨_,rfl,rfl,_,rfl,aO (fun _=>⟨_,rfl,_,rfl,ol,_,_,_,rfl,rfl,SqL.of hF.old,lN hyi,q _ H rf (.inr (.inr (.inr (.inr (.inr (.inl ⟨rfl,hyE⟩))))))⟩) fun c=>absurd (by decide) c⟩⟩⟩⟩⟩⟩
 ·exact ⟨_,rfl,rfl,_,rfl,aO (fun z=>absurd z (by decide)) fun _=>⟨_,rfl,rfl,_,rfl,aO (fun z=>absurd z (by decide)) fun _=>⟨_,rfl,rfl,_,rfl,aO (fun z=>absurd z (by decide)) fun _=>⟨_,rfl,rfl,_,rfl,aO (fun z=>absurd z (by decide)) fun _=>⟨_,rfl,rfl,_,rfl,aO (fun z=>absurd z (by decide)) fun _=>⟨_,rfl,rfl,_,rfl,aO (fun z=>absurd z (by decide)) fun _=>⟨_,rfl,rfl,_,rfl,aO (fun _=>⟨_,rfl,_,rfl,en,_,_,_,rfl,rfl,SqL.of hF.end_,ixe,_,rfl,_,_,rfl,rfl,_,_,rfl,rfl,q _ H rf (.inr (.inr (.inr (.inr (.inr (.inr (.inl ⟨rfl,d',hdi,congrArg V.int (by unfold eV; omega)⟩)))))))⟩) fun c=>absurd (by decide) c⟩⟩⟩⟩⟩⟩⟩
 ·exact ⟨_,rfl,rfl,_,rfl,aO (fun z=>absurd z (by decide)) fun _=>⟨_,rfl,rfl,_,rfl,aO (fun z=>absurd z (by decide)) fun _=>⟨_,rfl,rfl,_,rfl,aO (fun z=>absurd z (by decide)) fun _=>⟨_,rfl,rfl,_,rfl,aO (fun z=>absurd z (by decide)) fun _=>⟨_,rfl,rfl,_,rfl,aO (fun z=>absurd z (by decide)) fun _=>⟨_,rfl,rfl,_,rfl,aO (fun z=>absurd z (by decide)) fun _=>⟨_,rfl,rfl,_,rfl,aO (fun z=>absurd z (by decide)) fun _=>⟨_,rfl,rfl,_,rfl,aO (fun _=>⟨_,rfl,_,rfl,_,rfl,el,ds,xs,i,st,rfl,hF.eld,hF.lx,hF.hx,hg,hi,hst,fun x hx=>q x H rf (.inr (.inr (.inr (.inr (.inr (.inr (.inr (.inl ⟨rfl,hx⟩))))))))⟩) fun c=>absurd (by decide) c⟩⟩⟩⟩⟩⟩⟩⟩
 ·refine ⟨_,rfl,rfl,_,rfl,aO (fun z=>absurd z (by decide)) fun _=>⟨_,rfl,rfl,_,rfl,aO (fun z=>absurd z (by decide)) fun _=>⟨_,rfl,rfl,_,rfl,aO (fun z=>absurd z (by decide)) fun _=>⟨_,rfl,rfl,_,rfl,aO (fun z=>absurd z (by decide)) fun _=>⟨_,rfl,rfl,_,rfl,aO (fun z=>absurd z (by decide)) fun _=>⟨_,rfl,rfl,_,rfl,aO (fun z=>absurd z (by decide)) fun _=>⟨_,rfl,rfl,_,rfl,aO (fun z=>absurd z (by decide)) fun _=>⟨_,rfl,rfl,_,rfl,aO (fun z=>absurd z (by decide)) fun _=>⟨_,rfl,rfl,_,rfl,aO (fun _=>?_) fun c=>absurd (by decide) c⟩⟩⟩⟩⟩⟩⟩⟩⟩
  have ov:=ym (ds:=ds) hdi hj
  refine ⟨_,rfl,_,rfl,_,_,rfl,rfl,_,rfl,aO (fun c=>?_) fun c=>?_⟩
  ·have c:=of_decide_eq_true c
   refine ⟨_,rfl,_,rfl,_,rfl,en,_,_,_,rfl,rfl,SqL.of hF.end_,ixe,_,_,rfl,rfl,q _ H rf (.inr (.inr (.inr (.inr (.inr (.inr (.inr (.inr (.inl ⟨rfl,d',hdi,?_⟩)))))))))⟩
   unfold eV
   by_cases c2:(j:Int) < ((i + 1 + run ds (i + 1) d':Nat):Int)
   ·exact .inl ⟨ov.mpr ⟨by omega,by omega⟩,congrArg V.bl (decide_eq_true c2)⟩
   ·exact .inr ⟨fun z=>by have:=ov.mp z; omega,congrArg V.bl (decide_eq_false c2)⟩
  ·have c : ¬ (i:Int)≤(j:Int):=fun z=>c (decide_eq_true z)
   exact q _ H rf (.inr (.inr (.inr (.inr (.inr (.inr (.inr (.inr (.inl ⟨rfl,d',hdi,.inr ⟨fun z=>by have:=ov.mp z; omega,rfl⟩⟩)))))))))
 ·exact ⟨_,rfl,rfl,_,rfl,aO (fun z=>absurd z (by decide)) fun _=>⟨_,rfl,rfl,_,rfl,aO (fun z=>absurd z (by decide)) fun _=>⟨_,rfl,rfl,_,rfl,aO (fun z=>absurd z (by decide)) fun _=>⟨_,rfl,rfl,_,rfl,aO (fun z=>absurd z (by decide)) fun _=>⟨_,rfl,rfl,_,rfl,aO (fun z=>absurd z (by decide)) fun _=>⟨_,rfl,rfl,_,rfl,aO (fun z=>absurd z (by decide)) fun _=>⟨_,rfl,rfl,_,rfl,aO (fun z=>absurd z (by decide)) fun _=>⟨_,rfl,rfl,_,rfl,aO (fun z=>absurd z (by decide)) fun _=>⟨_,rfl,rfl,_,rfl,aO (fun z=>absurd z (by decide)) fun _=>⟨_,rfl,_,rfl,_,rfl,el,ds,xs,i,j,rfl,hF.eld,hF.lx,hF.hx,hg,hi,hj,fun x hx=>q x H rf (.inr (.inr (.inr (.inr (.inr (.inr (.inr (.inr (.inr (⟨rfl,hx⟩))))))))))⟩⟩⟩⟩⟩⟩⟩⟩⟩⟩
def Am (Ph:Addr):Sp:=fun vs H Q _ => ∃ (p:BP) (ak:Addr) (ds:List Int) (way st:Int) (i j:Nat),vs=[.ref p.t,.ref p.L.f,.ref ak]∧H ak=some (.tup [.int way,.int (i:Int),.int (j:Int),.int st])∧Nd H Ph p [] ds∧i < ds.length∧j < ds.length∧0≤way∧way < 10∧0≤st ∧ ∀ x ss' H',wA ds way i j st x→Did H H' Ph p.L 12 [] ss'→(way ≠ 9→ss'.length≤8)→Q x H'
theorem rA (T:Tx K mg a) (B:Bs mg base a):aX P w K mg base CX0 12 a.f_law_told_by a.fd_law_told_by ["_law_tables", "_law_look", "_law_ask"] (Am a.tP_heap_look):=by
 refine T.D_law_told_by.F.ok c7 (fun vs H Q E h=>?_) (fun cdv A outer s H vs Q E hr h=>?_)
 ·obtain ⟨p,ak,ds,way,st,i,j,rfl,_⟩:=h
  rfl
 obtain ⟨p,ak,ds,way,st,i,j,rfl,hak,hN,hi,hj,hw0,hw1,hst,q⟩:=h
 refine ⟨_,(aj (mq (pv 2) (ik rfl (bw (aV (i:=3) c7.nd rfl (Or.inl rfl)) (bw (aV (i:=4) c7.nd rfl (Or.inl rfl)) (bw (aV (i:=5) c7.nd rfl (Or.inl rfl)) (bw (aV (i:=6) c7.nd rfl (Or.inl rfl)) fG))))))
  (aj (aW (aK bJ (pv 3) au (aM _)) (aq (aB (aD T.D_place_of (cB T) (by decide) hr lR rfl (aa (pv 0) (aa (pv 1) (aa (pv 4) ao)))))) aL)
  (aj (aW (aK bJ (pv 3) au (aM _)) (aq (aB (aD T.D_depth_of (xR T) (by decide) hr lR rfl (aa (pv 0) (aa (pv 1) (aa (pv 4) ao)))))) aL)
  (aj (aW (aK bJ (pv 3) au (aM _)) (aq (aB (aD T.D_elder_of (yo T B) (by decide) hr lR rfl (aa (pv 0) (aa (pv 1) (aa (pv 4) ao)))))) aL)
  (aj (aW (aK bJ (pv 3) au (aM _)) (aq (aB (aD T.D_first_of (xW T) (by decide) hr lR rfl (aa (pv 0) (aa (pv 1) (aa (pv 4) ao)))))) aL)
  (aj (aW (aK bJ (pv 3) au (aM _)) (aq (aB (aD T.D_younger_of (uR T B) (by decide) hr lR rfl (aa (pv 0) (aa (pv 1) (aa (pv 4) ao)))))) aL)
  (aj (aW (aK bJ (pv 3) au (aM _)) (aq (aB (aD T.D_older_of (yd T B) (by decide) hr lR rfl (aa (pv 0) (aa (pv 1) (aa (pv 4) ao)))))) aL)
  (aj (aW (aK bJ (pv 3) au (aM _)) (aq (aB (aD T.D_beneath_of (lO T B) (by decide) hr lR rfl (aa (pv 0) (aa (pv 1) (aa (pv 4) ao)))))) aL)
  (aj (aW (aK bJ (pv 3) au (aM _)) (aq (aB (aD T.D_up_of (tZ T B) (by decide) hr lR rfl (aa (pv 0) (aa (pv 1) (aa (pv 4) (aa (pv 6) ao))))))) aL)
  (aj (aW (aK bJ (pv 3) au (aM _)) (aq (aB (aD T.D_is_over (zH T B) (by decide) hr lR rfl (aa (pv 0) (aa (pv 1) (aa (pv 4) (aa (pv 5) ao))))))) aL)
  (aq (aB (aD T.D_common_of (vM T B) (by decide) hr lR rfl (aa (pv 0) (aa (pv 1) (aa (pv 4) (aa (pv 5) ao))))))))))))))))),?_⟩
 refine ⟨_,rfl,ak,_,rfl,SqT.of hak,rfl,_,_,rfl,_,_,rfl,_,_,rfl,_,_,rfl,rfl,?_⟩
 have hw:way=0∨way=1∨way=2∨way=3∨way=4∨way=5∨way=6∨way=7∨way=8∨way=9:=by omega
 rcases hw with rfl | rfl | rfl | rfl | rfl | rfl | rfl | rfl | rfl | rfl
 ·refine ⟨_,rfl,rfl,_,rfl,aO (fun _=>⟨_,rfl,_,rfl,_,rfl,p,[],ds,(i:Int),rfl,hN,.inl ⟨i,rfl,hi,fun x ss1 H1 hx1 hx2 d1=>?_⟩⟩) fun c=>absurd (by decide) c⟩
  have l1:=d1.wr.len
  simp at l1
  refine q _ ss1 H1 (.inl ⟨rfl,_,hN.deep hx1 hx2,congrArg V.int ?_⟩) (d1.le (by decide)) (fun _=>by omega)
  have:ht p.ns x=2 * (p.ns.take x).sum - (x:Int):=rfl
  omega
 ·refine ⟨_,rfl,rfl,_,rfl,aO (fun z=>absurd z (by decide)) fun _=>⟨_,rfl,rfl,_,rfl,aO (fun _=>⟨_,rfl,_,rfl,_,rfl,p,[],ds,(i:Int),rfl,hN,.inl ⟨i,rfl,hi,fun x ss1 H1 hx d1=>?_⟩⟩) fun c=>absurd (by decide) c⟩⟩
  have l1:=d1.wr.len
  simp at l1
  exact q _ ss1 H1 (.inr (.inl ⟨rfl,hx⟩)) (d1.le (by decide)) (fun _=>by omega)
 ·refine ⟨_,rfl,rfl,_,rfl,aO (fun z=>absurd z (by decide)) fun _=>⟨_,rfl,rfl,_,rfl,aO (fun z=>absurd z (by decide)) fun _=>⟨_,rfl,rfl,_,rfl,aO (fun _=>⟨_,rfl,_,rfl,_,rfl,p,[],ds,(i:Int),rfl,hN,.inl ⟨i,rfl,hi,fun x ss1 H1 hx d1=>?_⟩⟩) fun c=>absurd (by decide) c⟩⟩⟩
  have l1:=d1.wr.len
  simp at l1
  exact q _ ss1 H1 (.inr (.inr (.inl ⟨rfl,hx⟩))) (d1.le (by decide)) (fun _=>by omega)
 ·refine ⟨_,rfl,rfl,_,rfl,aO (fun z=>absurd z (by decide)) fun _=>⟨_,rfl,rfl,_,rfl,aO (fun z=>absurd z (by decide)) fun _=>⟨_,rfl,rfl,_,rfl,aO (fun z=>absurd z (by decide)) fun _=>⟨_,rfl,rfl,_,rfl,aO (fun _=>⟨_,rfl,_,rfl,_,rfl,p,[],ds,(i:Int),rfl,hN,.inl ⟨i,rfl,hi,fun x ss1 H1 hx d1=>?_⟩⟩) fun c=>absurd (by decide) c⟩⟩⟩⟩
  have l1:=d1.wr.len
  simp at l1
  exact q _ ss1 H1 (.inr (.inr (.inr (.inl ⟨rfl,hx⟩)))) (d1.le (by decide)) (fun _=>by omega)
 ·refine ⟨_,rfl,rfl,_,rfl,aO (fun z=>absurd z (by decide)) fun _=>⟨_,rfl,rfl,_,rfl,aO (fun z=>absurd z (by decide)) fun _=>⟨_,rfl,rfl,_,rfl,aO (fun z=>absurd z (by decide)) fun _=>⟨_,rfl,rfl,_,rfl,aO (fun z=>absurd z (by decide)) fun _=>⟨_,rfl,rfl,_,rfl,aO (fun _=>⟨_,rfl,_,rfl,_,rfl,p,[],ds,(i:Int),rfl,hN,.inl ⟨i,rfl,hi,fun x ss1 H1 hx d1=>?_⟩⟩) fun c=>absurd (by decide) c⟩⟩⟩⟩⟩
  have l1:=d1.wr.len
  simp at l1
  exact q _ ss1 H1 (.inr (.inr (.inr (.inr (.inl ⟨rfl,hx⟩))))) (d1.le (by decide)) (fun _=>by omega)
 ·refine ⟨_,rfl,rfl,_,rfl,aO (fun z=>absurd z (by decide)) fun _=>⟨_,rfl,rfl,_,rfl,aO (fun z=>absurd z (by decide)) fun _=>⟨_,rfl,rfl,_,rfl,aO (fun z=>absurd z (by decide)) fun _=>⟨_,rfl,rfl,_,rfl,aO (fun z=>absurd z (by decide)) fun _=>⟨_,rfl,rfl,_,rfl,aO (fun z=>absurd z (by decide)) fun _=>⟨_,rfl,rfl,_,rfl,aO (fun _=>⟨_,rfl,_,rfl,_,rfl,p,[],ds,(i:Int),rfl,hN,.inl ⟨i,rfl,hi,fun x ss1 H1 hx d1=>?_⟩⟩) fun c=>absurd (by decide) c⟩⟩⟩⟩⟩⟩
  have l1:=d1.wr.len
  simp at l1
  exact q _ ss1 H1 (.inr (.inr (.inr (.inr (.inr (.inl ⟨rfl,hx⟩)))))) (d1.le (by decide)) (fun _=>by omega)
 ·refine ⟨_,rfl,rfl,_,rfl,aO (fun z=>absurd z (by decide)) fun _=>⟨_,rfl,rfl,_,rfl,aO (fun z=>absurd z (by decide)) fun _=>⟨_,rfl,rfl,_,rfl,aO (fun z=>absurd z (by decide)) fun _=>⟨_,rfl,rfl,_,rfl,aO (fun z=>absurd z (by decide)) fun _=>⟨_,rfl,rfl,_,rfl,aO (fun z=>absurd z (by decide)) fun _=>⟨_,rfl,rfl,_,rfl,aO (fun z=>absurd z (by decide)) fun _=>⟨_,rfl,rfl,_,rfl,aO (fun _=>⟨_,rfl,_,rfl,_,rfl,p,[],ds,(i:Int),rfl,hN,.inl ⟨i,rfl,hi,fun x ss1 H1 hx d1=>?_⟩⟩) fun c=>absurd (by decide) c⟩⟩⟩⟩⟩⟩⟩
  have l1:=d1.wr.len
  simp at l1
  exact q _ ss1 H1 (.inr (.inr (.inr (.inr (.inr (.inr (.inl ⟨rfl,hx⟩))))))) (d1.le (by decide)) (fun _=>by omega)
 ·refine ⟨_,rfl,rfl,_,rfl,aO (fun z=>absurd z (by decide)) fun _=>⟨_,rfl,rfl,_,rfl,aO (fun z=>absurd z (by decide)) fun _=>⟨_,rfl,rfl,_,rfl,aO (fun z=>absurd z (by decide)) fun _=>⟨_,rfl,rfl,_,rfl,aO (fun z=>absurd z (by decide)) fun _=>⟨_,rfl,rfl,_,rfl,aO (fun z=>absurd z (by decide)) fun _=>⟨_,rfl,rfl,_,rfl,aO (fun z=>absurd z (by decide)) fun _=>⟨_,rfl,rfl,_,rfl,aO (fun z=>absurd z (by decide)) fun _=>⟨_,rfl,rfl,_,rfl,aO (fun _=>⟨_,rfl,_,rfl,_,rfl,_,rfl,p,[],ds,(i:Int),st,rfl,hN,.inl ⟨i,rfl,hi,hst,fun x ss1 H1 hx d1=>?_⟩⟩) fun c=>absurd (by decide) c⟩⟩⟩⟩⟩⟩⟩⟩
  have l1:=d1.wr.len
  simp at l1
  exact q _ ss1 H1 (.inr (.inr (.inr (.inr (.inr (.inr (.inr (.inl ⟨rfl,hx⟩)))))))) (d1.le (by decide)) (fun _=>by omega)
 ·refine ⟨_,rfl,rfl,_,rfl,aO (fun z=>absurd z (by decide)) fun _=>⟨_,rfl,rfl,_,rfl,aO (fun z=>absurd z (by decide)) fun _=>⟨_,rfl,rfl,_,rfl,aO (fun z=>absurd z (by decide)) fun _=>⟨_,rfl,rfl,_,rfl,aO (fun z=>absurd z (by decide)) fun _=>⟨_,rfl,rfl,_,rfl,aO (fun z=>absurd z (by decide)) fun _=>⟨_,rfl,rfl,_,rfl,aO (fun z=>absurd z (by decide)) fun _=>⟨_,rfl,rfl,_,rfl,aO (fun z=>absurd z (by decide)) fun _=>⟨_,rfl,rfl,_,rfl,aO (fun z=>absurd z (by decide)) fun _=>⟨_,rfl,rfl,_,rfl,aO (fun _=>⟨_,rfl,_,rfl,_,rfl,_,rfl,p,[],ds,(i:Int),(j:Int),rfl,hN,by simp,.inl ⟨i,j,rfl,rfl,hi,hj,fun x ss1 H1 hx d1=>?_⟩⟩) fun c=>absurd (by decide) c⟩⟩⟩⟩⟩⟩⟩⟩⟩
  have l1:=d1.wr.len
  simp at l1
  exact q _ ss1 H1 (.inr (.inr (.inr (.inr (.inr (.inr (.inr (.inr (.inl ⟨rfl,hx⟩))))))))) (d1.le (by decide)) (fun z=>by omega)
 ·refine ⟨_,rfl,rfl,_,rfl,aO (fun z=>absurd z (by decide)) fun _=>⟨_,rfl,rfl,_,rfl,aO (fun z=>absurd z (by decide)) fun _=>⟨_,rfl,rfl,_,rfl,aO (fun z=>absurd z (by decide)) fun _=>⟨_,rfl,rfl,_,rfl,aO (fun z=>absurd z (by decide)) fun _=>⟨_,rfl,rfl,_,rfl,aO (fun z=>absurd z (by decide)) fun _=>⟨_,rfl,rfl,_,rfl,aO (fun z=>absurd z (by decide)) fun _=>⟨_,rfl,rfl,_,rfl,aO (fun z=>absurd z (by decide)) fun _=>⟨_,rfl,rfl,_,rfl,aO (fun z=>absurd z (by decide)) fun _=>⟨_,rfl,rfl,_,rfl,aO (fun z=>absurd z (by decide)) fun _=>⟨_,rfl,_,rfl,_,rfl,_,rfl,p,[],ds,(i:Int),(j:Int),rfl,hN,by simp,.inl ⟨i,j,rfl,rfl,hi,hj,fun x ss1 H1 hx d1=>?_⟩⟩⟩⟩⟩⟩⟩⟩⟩⟩⟩
  have l1:=d1.wr.len
  simp at l1
  exact q _ ss1 H1 (.inr (.inr (.inr (.inr (.inr (.inr (.inr (.inr (.inr (⟨rfl,hx⟩)))))))))) (d1.le (by decide)) (fun z=>absurd rfl z)
def Jd:Sp:=fun vs H Q _ => ∃ (sn:Addr) (ss:List Int) (size most:Int),vs=[.ref sn,.int size,.int most]∧H sn=some (.lst (ss.map V.int))∧(∀ x∈ss,0≤x∧x < size)∧(ss.length:Int)≤most∧ss.length≤1000 ∧ ∀ H',aR H H'→Q (.bl true) H'
theorem Ac (T:Tx K mg a):aX P w K mg base CX0 2 a.f_law_few a.fd_law_few ["_law_seen", "_law_size", "_law_most"] Jd:=by
 refine T.D_law_few.F.ok rC (fun vs H Q E h=>?_) (fun cdv A outer s H vs Q E hr h=>?_)
 ·obtain ⟨sn,ss,size,most,rfl,_⟩:=h
  rfl
 obtain ⟨sn,ss,size,most,rfl,h1,hx,hm,hl,q⟩:=h
 refine ⟨_,(aj (bV PassesOwn.never rfl (dw (pv 0)) (aV (i:=3) rC.nd rfl (Or.inl rfl)) (aq (aW (PW.pt (oH (j6 (rJ (aD T.D_law_whole (jK T) (by decide) hr aH rfl (aa (pv 3) ao)))) (oH (aK ji (pv 3) au (aM _)) (jX (aK xn (pv 3) (pv 1) (aM _)))))) (aq (aB vh)) aL)))
  (aq (aB (eH dU (aY uT rfl T.b_len Tw.bW (aa (dB (uO rfl) rfl T.b_set Tw.HR (aa (pv 0) ao)) ao)) (pv 2) (aM _))))),?_⟩
 refine ⟨_,rfl,sn,rfl,⟨_,SqL.of h1⟩,?_⟩
 refine cO (xs:=ss.map V.int) (fun i σ H2=>(∃ k,σ=[some (.ref sn),some (.int size),some (.int most),k])∧aR H H2) ⟨⟨none,rfl⟩,aR.refl _⟩ ?_ ?_ ?_
 ·rintro i σ H2 _ ⟨_,sm⟩
  exact SqL.of (sm _ _ h1)
 ·rintro i x σ H2 hx' ⟨⟨k,rfl⟩,sm⟩
  obtain ⟨z,hz,rfl⟩:=int_at hx'
  have hcx:=hx z (List.mem_of_getElem? hz)
  refine ⟨_,rfl,z,rfl,true,rfl,cW ?_⟩
  refine ⟨_,rfl,_,_,rfl,rfl,_,rfl,aO (fun y=>?_) fun _=>?_⟩
  ·have y:=of_decide_eq_true y
   omega
  refine ⟨_,rfl,_,rfl,_,_,rfl,rfl,_,rfl,aO (fun y=>?_) fun _=>?_⟩
  ·have y:=of_decide_eq_true y
   omega
  exact ⟨⟨_,rfl⟩,sm⟩
 ·rintro σ H2 ⟨⟨k,rfl⟩,sm⟩
  refine ⟨_,rfl,sn,ss,rfl,SqL.of (sm _ _ h1),(by show ss.length + 1 < 4096; omega),fun l S n hl' hn=>?_⟩
  refine ⟨l,S,n,rfl,az,by omega,_,rfl,_,_,rfl,rfl,?_⟩
  show Q (.bl (decide ((n:Int)≤most))) _
  rw [decide_eq_true (show (n:Int)≤most from by omega)]
  exact q _ (sm.trans (aA hl' _))
def FZ:Sp:=fun vs H Q _ => ∃ (x:V) (way:Int),vs=[x,x,.int way]∧((way=8 ∧ ∃ b,x=.bl b)∨(way ≠ 8∧(x=.non ∨ ∃ n,x=.int n)))∧Q (.bl true) H
theorem vQ (T:Tx K mg a):aX P w K mg base CX0 2 a.f_law_right a.fd_law_right ["_law_found", "_law_due_here", "_law_way"] FZ:=by
 refine T.D_law_right.F.ok wz (fun vs H Q E h=>?_) (fun cdv A outer s H vs Q E hr h=>?_)
 ·obtain ⟨x,way,rfl,_⟩:=h
  rfl
 obtain ⟨x,way,rfl,hx,q⟩:=h
 refine ⟨_,(aj (aW (gP (jG (pv 1))) (aq (aB (HS (jG (pv 0))))) aL)
  (aj (aW (aK bJ (pv 2) au (aM _)) (aq (aB (oV (aY tU rfl T.b_isinstance Tw.iQ (aa (pv 0) (aa (wK (v:=.ty "bool") rfl T.b_bool Tw.Br rfl) ao))) (pO (eH bJ (pv 0) (pv 1) (aM _)))))) aL)
  (aq (aB (oV (aD T.D_law_whole (jK T) (by decide) hr aH rfl (aa (pv 0) ao)) (pO (eH bJ (pv 0) (pv 1) (aM _)))))))),?_⟩
 rcases hx with ⟨rfl,b,rfl⟩ | ⟨hw,rfl | ⟨n,rfl⟩⟩
 ·refine ⟨_,rfl,_,rfl,cW ⟨_,rfl,rfl,_,rfl,aO (fun _=>⟨_,rfl,_, "bool", _,true,rfl,.bl b,rfl,true,rfl,fK ⟨_,rfl,_,rfl,rfl,?_⟩⟩) fun c=>absurd (by decide) c⟩⟩
  show Q (.bl (decide (V.bl b=V.bl b))) H
  rw [decide_eq_true rfl]
  exact q
 ·exact ⟨_,rfl,_,rfl,fK ⟨_,rfl,q⟩⟩
 ·refine ⟨_,rfl,_,rfl,cW ⟨_,rfl,rfl,_,rfl,?_⟩⟩
  rw [decide_eq_false (fun z=>hw (V.int.inj z))]
  refine cW ⟨_,rfl,n,rfl,true,rfl,fK ⟨_,rfl,_,rfl,rfl,?_⟩⟩
  show Q (.bl (decide (V.int n=V.int n))) H
  rw [decide_eq_true rfl]
  exact q
def Kt (Ph Pt:Addr) (H X:Hp):Prop := ∀ b o,H b=some o→b ≠ Ph→b ≠ Pt→X b=some o
theorem TabAt.other {X Y:Hp} {Ph Pt:Addr} {pos pos':Pos} {q q':Str} (nn:Ph ≠ Pt) (h:TabAt X Ph pos q) (hT:TabAt X Pt pos' q') (b:vC Pt X Y):TabAt Y Ph pos q:=by
 obtain ⟨ps,z1,z2,z3⟩:=h
 refine ⟨ps,b _ _ z1 nn,z2,?_⟩
 rcases z3 with z3 | ⟨cd,oc,vs,tk,z4,z5,z6⟩
 ·exact .inl z3
 ·exact .inr ⟨cd,oc,vs,tk,z4,b _ _ z5 (TabAt.ne hT z5 nofun),z6⟩
theorem TabAt.did {X Y:Hp} {Ph Pt sn:Addr} {pos pos':Pos} {q q':Str} {xs:List V} (nn:Pt ≠ Ph) (h:TabAt X Pt pos q) (hT:TabAt X Ph pos' q') (hs:X sn=some (.lst xs)) (b : ∀ b o,X b=some o→b ≠ Ph→b ≠ sn→Y b=some o):TabAt Y Pt pos q:=by
 obtain ⟨ps,z1,z2,z3⟩:=h
 refine ⟨ps,b _ _ z1 nn (fun z=>by rw [z,hs] at z1; cases z1),z2,?_⟩
 rcases z3 with z3 | ⟨cd,oc,vs,tk,z4,z5,z6⟩
 ·exact .inl z3
 ·exact .inr ⟨cd,oc,vs,tk,z4,b _ _ z5 (TabAt.ne hT z5 nofun) (fun z=>by rw [z,hs] at z5; cases z5),z6⟩
def Jx (ds:List Int) (X:Hp) (v:V):Prop := ∃ (ak:Addr) (way st:Int) (i j:Nat),v=.ref ak∧X ak=some (.tup [.int way,.int (i:Int),.int (j:Int),.int st])∧i < ds.length∧j < ds.length∧0≤way∧way < 10∧0≤st
def sp_law (K:PySem.W.Frag) (Pl Ph Pt:Addr):Sp:=fun vs H Q _ => ∃ (s:Addr) (ns:List Int),vs=[.ref s]∧SqL K H s (ns.map V.int)∧ns.length≤63∧TabAt H Pl (jT fu) dD.qual∧TabAt H Ph (jz b7) bu.qual∧TabAt H Pt (jT cH) cT.qual ∧ ∀ H',Q (.bl true) H'
theorem CK {H:Hp} {s Pl Ph Pt:Addr} {ns:List Int} (hS:SqL K H s (ns.map V.int)) (hl:ns.length≤63) (h1:H Pl=some (.tbl #[])) (h0:H Ph=some (.tbl #[])) (h:H Pt=some (.tbl #[])):sp_law K Pl Ph Pt [.ref s] H (fun v _=>v=.bl true) fun _ _ _=>False :=
 ⟨s,ns,rfl,hS,hl,tab0 h1,tab0 h0,tab0 h,fun _=>rfl⟩
theorem Iz (T:Tx K mg a) (B:Bs mg base a):aX P w K mg base CX0 13 a.f_law a.fd_law ["_law_script"] (sp_law K a.tP_look_of a.tP_heap_look a.tP_law_watched):=by
 refine T.D_law.F.ok dM (fun vs H Q E h=>?_) (fun cdv A outer s H vs Q E hr h=>?_)
 ·obtain ⟨b,f,rfl,_⟩:=h
  rfl
 obtain ⟨sa,zs,rfl,hS,hl,hTl,hTh,hT,q⟩:=h
 refine ⟨_,(aj (aG (i:=1) dM.nd rfl (Or.inl rfl) (aD T.D_law_depths (uE T) (by decide) hr aH rfl (aa (pv 0) (aa au ao))))
  (aj (aG (i:=2) dM.nd rfl (Or.inl rfl) (aD T.D_tree_octets (lA T) (by decide) hr aH rfl (aa (dB jr rfl T.b_list Tw.rz (aa (pv 1) ao)) ao)))
  (aj (aW (aK (Ew hr.units) (aD T.D_read_tree (nM T) (by decide) hr aH rfl (aa (pv 2) ao)) (pv 1) (aM _)) (aq (aB vh)) aL)
  (aj (mq (aD T.D_opened_tree (ur T B) (by decide) hr aH rfl (aa (pv 2) ao)) (ik rfl (bw (aV (i:=3) dM.nd rfl (Or.inl rfl)) (bw (aV (i:=4) dM.nd rfl (Or.inl rfl)) fG))))
  (aj (bc (Ed PySem.F.plainAttrs_list PySem.F.slot_list_clear PySem.F.type_list_clear Ec (pv 2)))
  (aj (aG (i:=5) dM.nd rfl (Or.inl rfl) (wF (aF cu (aF bj (aF bR au (aY aQ rfl T.b_len Tw.bW (aa (pv 1) ao))) au) au)))
  (aj (aG (i:=6) dM.nd rfl (Or.inl rfl) (aD T.D_law_family (uF T) (by decide) hr aH rfl (aa (pv 1) ao)))
  (aj (aG (i:=7) dM.nd rfl (Or.inl rfl) (bT ao))
  (aj (bV PassesOwn.never rfl (dw (eF gU (pv 0) lD (dI au))) (aV (i:=8) dM.nd rfl (Or.inl rfl)) (aj (aG (i:=9) dM.nd rfl (Or.inl rfl) (aF cR (aF bR (pv 8) au) au))
  (aj (aG (i:=10) dM.nd rfl (Or.inl rfl) (wF (aF cR (aF cu (pv 9) au) (aY aQ rfl T.b_len Tw.bW (aa (pv 1) ao)))))
  (aj (aG (i:=11) dM.nd rfl (Or.inl rfl) (wF (aF cR (aF cR (aF bR (pv 8) au) au) (aY aQ rfl T.b_len Tw.bW (aa (pv 1) ao)))))
  (aq (bc (eY PySem.F.plainAttrs_list PySem.F.slot_list_append PySem.F.type_list_append bH (pv 7) (aa (mK (aa (aF cR (pv 9) au) (aa (pv 10) (aa (pv 11) (aa (aF cR (aF cR (aF bR (pv 8) au) au) (aF bj (aZ bD (pv 1) (pv 10) (fun _ _=>rfl)) au)) ao))))) ao))))))))
  (aj (bV PassesOwn.never rfl (dw (aF iD (pv 7) (Gh (pv 7) (vp oO au)))) (aV (i:=12) dM.nd rfl (Or.inl rfl)) (aj (aG (i:=13) dM.nd rfl (Or.inl rfl) (bT ao))
  (aj (aG (i:=14) dM.nd rfl (Or.inl rfl) (aD T.D_law_told_by (rA T B) (by decide) hr aH rfl (aa (pv 3) (aa (aD T.D_law_watched (ud T B) (by decide) hr aH rfl (aa (pv 4) (aa (pv 5) (aa (pv 13) ao)))) (aa (pv 12) ao)))))
  (aj (aW (j6 (rJ (aD T.D_law_right (vQ T) (by decide) hr aH rfl (aa (pv 14) (aa (aD T.D_law_due (Ae T) (by decide) hr aH rfl (aa (pv 1) (aa (pv 6) (aa (pv 12) ao)))) (aa (aZ bx (pv 12) au (fun _ _=>rfl)) ao)))))) (aq (aB vh)) aL)
  (aq (aW (j6 (rJ (aD T.D_law_few (Ac T) (by decide) hr aH rfl (aa (pv 13) (aa (pv 5) (aa (aZ bD (bT (aa au (aa au ao))) (dB pB rfl T.b_int Tw.wN (aa (eH bJ (aZ bx (pv 12) au (fun _ _=>rfl)) au (aM _)) ao)) (fun _ _=>rfl)) ao)))))) (aq (aB vh)) aL))))))
  (aq (aB vh)))))))))))),?_⟩
 have nlh:=B.N_look_of_heap_look
 have nlw:=B.N_look_of_law_watched
 have nhw:=B.N_heap_look_law_watched
 refine ⟨_,rfl,sa,zs,500,rfl,hS,hl,by decide,fun p H1 ds hp0 sm1 hp hg hn=>?_⟩
 have h0:0 < ds.length:=(List.getElem?_eq_some_iff.mp hg.1).1
 have hbl:=lH hg
 have ern:(ds.map V.int).length=ds.length:=List.length_map ..
 refine ⟨_,rfl,p,_,rfl,.inl (SqL.of hp),fun c hc=>?_⟩
 have sc:=aA hc (.lst (ds.map V.int))
 refine ⟨c,ds,rfl,az,by omega,hg,fun oc H2 lows hoc s2 hlo xoc=>?_⟩
 have s12:=sc.trans s2
 have hp2:=s12 _ _ hp
 have npo:p ≠ oc:=fun z=>by rw [← z,sc _ _ hp] at hoc; cases hoc
 have ho:yz H2 oc (brk ds 0) lows:=⟨xoc,dO _ _,by omega⟩
 have a2:=sm1.trans s12
 refine ⟨_,rfl,oc,ds,lows,rfl,ho,hg,by omega,hlo,fun r H3 hr3 s3 x3=>⟨_,rfl,.inl ⟨r,p,_,_,rfl,rfl,SqL.of x3,SqL.of (s3 _ _ hp2),?_⟩⟩⟩
 rw [decide_eq_true rfl]
 refine ⟨_,rfl,cW ?_⟩
 have a3:=a2.trans s3
 have ho3:yz H3 oc (brk ds 0) lows:=⟨s3 _ _ xoc,dO _ _,by omega⟩
 have hTl3:=TabAt.same hTl a3
 have hTh3:=TabAt.same hTh a3
 have hT3:=TabAt.same hT a3
 refine ⟨_,rfl,oc,ds,lows,rfl,ho3,hg,by omega,hlo,hTl3,fun kr t ah nd bl g lows' S hxs cs H4 hbl0 b4 hTl4 xkr kb cg=>?_⟩
 refine ⟨kr,_,rfl,SqT.of xkr,rfl,_,_,rfl,_,_,rfl,rfl,?_⟩
 have k4 : ∀ b o,H3 b=some o→(∀ ps,o ≠ .tbl ps)→H4 b=some o:=fun b o e n=>b4 b o e (TabAt.ne hTl3 e n)
 have xoc4:=k4 _ _ ho3.1 nofun
 have hTh4:=TabAt.other nlh.symm hTh3 hTl3 b4
 have hT4:=TabAt.other nlw.symm hT3 hTl3 b4
 have nbo:bl ≠ oc:=fun z=>by rw [z,ho3.1] at hbl0; cases hbl0
 refine ⟨_,rfl,.inl ⟨rfl,_,SqL.of xoc4⟩,oc,_,rfl,rfl,xoc4,?_⟩
 have k5 : ∀ b o,H4 b=some o→b ≠ oc→upd H4 oc (.lst []) b=some o:=fun b o e n=>by rw [aJ n]; exact e
 have n5 : ∀ b o,H4 b=some o→(∀ us,o ≠ .lst us)→upd H4 oc (.lst []) b=some o:=fun b o e n=>k5 b o e (fun z=>by rw [z,xoc4] at e; cases e; exact n _ rfl)
 have hp5:=k5 _ _ (k4 _ _ (s3 _ _ hp2) nofun) npo
 have kb5:KB (upd H4 oc (.lst [])) t ah nd bl (brk ds 0) lows' S hxs:=⟨⟨n5 _ _ kb.tab.tup nofun,n5 _ _ kb.tab.ahs nofun,kb.tab.few⟩,n5 _ _ kb.nds nofun,k5 _ _ kb.bls nbo,kb.low,kb.sz,kb.heap⟩
 have cg5:cN (upd H4 oc (.lst [])) g dD cs [.ref bl]:=cg.same fun b o e=>n5 _ _ e nofun
 have hTh5:=TabAt.upd (ys:=[]) hTh4 xoc4
 have hT5:=TabAt.upd (ys:=[]) hT4 xoc4
 have hS5:SqL K (upd H4 oc (.lst [])) sa (zs.map V.int):=by
  have nS : ∀ {o:HO},H sa=some o→sa ≠ oc:=fun {o} e z=>by
   have:=sc _ _ (sm1 _ _ e)
   rw [z,hoc] at this
   cases this
  rcases hS with (e | ⟨o,e⟩) | e
  ·exact .inl (.inl (k5 _ _ (k4 _ _ (a3 _ _ e) nofun) (nS e)))
  ·exact .inl (.inr ⟨o,k5 _ _ (k4 _ _ (a3 _ _ e) nofun) (nS e)⟩)
  ·exact .inr e
 generalize upd H4 oc (.lst [])=H5 at *
 refine ⟨fun v Y=>H5=Y∧v=.int ((many (brk ds 0).length:Nat):Int),⟨_,rfl,p,_,rfl,.inl (SqL.of hp5),_,_,rfl,rfl,.inl ⟨by decide,by decide⟩,_,_,rfl,rfl,_,_,rfl,rfl,⟨by decide,by decide⟩,rfl,congrArg V.int (by unfold many; omega)⟩,?_⟩
 rintro v Y ⟨rfl,rfl⟩
 refine ⟨_,rfl,p,ds,rfl,hp5,hg,by omega,fun fm el ol en H6 xs ys es s6 xfm xel xol xen l1 l2 l3 hx hy he=>?_⟩
 have hF6:Fam H6 p fm el ol en ds xs ys es:=⟨s6 _ _ hp5,xfm,xel,xol,xen,l1,l2,l3,hx,hy,he⟩
 refine ⟨(by show 0≤sizeLine; decide),fun qs hqs=>?_⟩
 have s7:=aA hqs (.lst [])
 have a67:=s6.trans s7
 have xqs7:upd H6 qs (.lst []) qs=some (.lst []):=az
 have hF7:Fam (upd H6 qs (.lst [])) p fm el ol en ds xs ys es:=hF6.kept fun b o e _=>s7 _ _ e
 have hS7:=a67.seq hS5
 have kb7 : ∀ {X:Hp},(∀ b o,H5 b=some o→(∀ ps,o ≠ .tbl ps)→X b=some o)→KB X t ah nd bl (brk ds 0) lows' S hxs:=fun k=>⟨⟨k _ _ kb5.tab.tup nofun,k _ _ kb5.tab.ahs nofun,kb5.tab.few⟩,k _ _ kb5.nds nofun,k _ _ kb5.bls nofun,kb5.low,kb5.sz,kb5.heap⟩
 have hTh7:=TabAt.same hTh5 a67
 have hT7:=TabAt.same hT5 a67
 generalize upd H6 qs (.lst [])=H7 at *
 refine ⟨_,rfl,_,rfl,sa,_,rfl,hS7,fun lz hlz=>⟨lz,rfl,⟨_,SqL.of az⟩,?_⟩⟩
 have ez:gM (zs.map V.int) none (some 63)=zs.map V.int:=by
  rw [show (63:Int)=((63:Nat):Int) from rfl,vZ,List.take_of_length_le hl]
 rw [ez]
 have s8:=aA hlz (.lst (zs.map V.int))
 have xlz:upd H7 lz (.lst (zs.map V.int)) lz=some (.lst (zs.map V.int)):=az
 have nlz:lz ≠ qs:=(aN xqs7 hlz).symm
 have xqs8:=s8 _ _ xqs7
 generalize upd H7 lz (.lst (zs.map V.int))=H8 at *
 have hqs6:H6 qs=none:=hqs
 have hnode : ∀ v:Int,∀ m:Int,v=m % (((ds.map V.int).length:Nat):Int)→0≤v∧v < ds.length:=fun v m e=>by
  rw [e,ern]
  exact ⟨Int.emod_nonneg _ (by omega),Int.emod_lt_of_pos _ (by omega)⟩
 refine cO (xs:=zs.map V.int) (fun i σ X=>(∃ k8 k9 k10 k11,σ=[some (.ref sa),some (.ref p),some (.ref oc),some (.ref t),some (.ref g),some (.int ((many (brk ds 0).length:Nat):Int)),some (.ref fm),some (.ref qs),k8,k9,k10,k11,none,none,none])∧(∀ b o,H8 b=some o→b ≠ qs→X b=some o) ∧ ∃ us:List V,X qs=some (.lst us)∧us.length=i ∧ ∀ v∈us,Jx ds X v) ⟨⟨none,none,none,none,rfl⟩,fun _ _ e _=>e,[],xqs8,rfl,nofun⟩ ?_ ?_ ?_
 ·rintro i σ X _ ⟨_,k,_⟩
  exact SqL.of (k _ _ xlz nlz)
 ·rintro i x σ X hx ⟨⟨k8,k9,k10,k11,rfl⟩,kX,us,xus,hul,hus⟩
  obtain ⟨z,hz,rfl⟩:=int_at hx
  have hi63:=(List.getElem?_eq_some_iff.mp hz).1
  have hpX:=kX _ _ (s8 _ _ hF7.deps) (fun z=>by have:=hF7.deps; rw [z,xqs7] at this; cases hds:ds with | nil=>rw [hds] at h0; simp at h0 | cons y r=>rw [hds] at this; cases this)
  refine ⟨_,rfl,_,_,rfl,rfl,.inr ⟨by decide,by decide⟩,_,_,rfl,rfl,(by show (0:Int) < 2147483399; decide),?_⟩
  refine ⟨fun v Y=>X=Y ∧ ∃ n:Nat,v=.int (n:Int)∧n < ds.length,⟨_,rfl,_,_,rfl,rfl,⟨by decide,by decide⟩,_,rfl,p,_,rfl,.inl (SqL.of hpX),_,_,rfl,rfl,(by show (0:Int) < (((ds.map V.int).length:Nat):Int); omega),rfl,(z * 40692 % 2147483399 / 10 % (((ds.map V.int).length:Nat):Int)).toNat,?_,?_⟩,?_⟩
  ·have:=hnode _ _ (rfl:z * 40692 % 2147483399 / 10 % (((ds.map V.int).length:Nat):Int)=_)
   exact congrArg V.int (by omega)
  ·have:=hnode _ _ (rfl:z * 40692 % 2147483399 / 10 % (((ds.map V.int).length:Nat):Int)=_)
   omega
  rintro v Y ⟨rfl,n1,rfl,hn1⟩
  refine ⟨fun v Y=>X=Y ∧ ∃ n:Nat,v=.int (n:Int)∧n < ds.length,⟨_,rfl,_,_,rfl,rfl,.inr ⟨by decide,by decide⟩,_,_,rfl,rfl,(by show (0:Int) < 2147483587; decide),_,rfl,p,_,rfl,.inl (SqL.of hpX),_,_,rfl,rfl,(by show (0:Int) < (((ds.map V.int).length:Nat):Int); omega),rfl,(z * 16807 % 2147483587 % (((ds.map V.int).length:Nat):Int)).toNat,?_,?_⟩,?_⟩
  ·have:=hnode _ _ (rfl:z * 16807 % 2147483587 % (((ds.map V.int).length:Nat):Int)=_)
   exact congrArg V.int (by omega)
  ·have:=hnode _ _ (rfl:z * 16807 % 2147483587 % (((ds.map V.int).length:Nat):Int)=_)
   omega
  rintro v Y ⟨rfl,n2,rfl,hn2⟩
  have hd1:=List.getElem?_eq_getElem hn1
  have hd0:=cP hg hd1
  generalize ds[n1]=d1 at *
  have m0:=Int.emod_nonneg (z * 69621 % 2147483629) (show d1 + 3 ≠ 0 by omega)
  refine ⟨_,rfl,.inl ⟨rfl,_,SqL.of xus⟩,_,rfl,_,_,rfl,rfl,(by show (0:Int) < 10; decide),_,rfl,_,rfl,_,rfl,_,_,rfl,rfl,.inr ⟨by decide,by decide⟩,_,_,rfl,rfl,(by show (0:Int) < 2147483629; decide),_,rfl,_,rfl,p,_,_,_,rfl,rfl,SqL.of hpX,ig hd1,_,_,rfl,rfl,_,_,rfl,rfl,(by show (0:Int) < d1 + 3; omega),(by show 4≤sizeLine; decide),fun ak hak=>?_⟩
  have t1:=aA hak (.tup [.int (z * 40692 % 2147483399 % 10),.int (n1:Int),.int (n2:Int),.int (z * 69621 % 2147483629 % (d1 + 3))])
  have xak:upd X ak (.tup [.int (z * 40692 % 2147483399 % 10),.int (n1:Int),.int (n2:Int),.int (z * 69621 % 2147483629 % (d1 + 3))]) ak=some (.tup [.int (z * 40692 % 2147483399 % 10),.int (n1:Int),.int (n2:Int),.int (z * 69621 % 2147483629 % (d1 + 3))]):=az
  generalize upd X ak (.tup [.int (z * 40692 % 2147483399 % 10),.int (n1:Int),.int (n2:Int),.int (z * 69621 % 2147483629 % (d1 + 3))])=X1 at *
  refine ⟨qs,_,_,rfl,rfl,t1 _ _ xus,by rw [hul,sizeLine_eq]; omega,⟨_,_,_,_,rfl⟩,fun b o e n=>by rw [aJ n]; exact t1 _ _ (kX b o e n),us ++ [.ref ak],az,by rw [List.length_append,hul]; rfl,fun v hv=>?_⟩
  have nq : ∀ b us',X1 b=some (.tup us')→b ≠ qs:=fun b us' e z=>by rw [z,t1 _ _ xus] at e; cases e
  rcases List.mem_append.mp hv with hv | hv
  ·obtain ⟨ak',w',st',i',j',e,e1,e2⟩:=hus v hv
   exact ⟨ak',w',st',i',j',e,by rw [aJ (nq _ _ (t1 _ _ e1))]; exact t1 _ _ e1,e2⟩
  ·rw [List.mem_singleton.mp hv]
   exact ⟨ak,_,_,n1,n2,rfl,by rw [aJ (nq _ _ xak)]; exact xak,hn1,hn2,by omega,by omega,m0⟩
 ·rintro σ X ⟨⟨k8,k9,k10,k11,rfl⟩,kX,us,xus,hul,hus⟩
  rw [List.length_map] at hul
  have gX : ∀ b o,H6 b=some o→X b=some o:=fun b o e=>kX _ _ (s8 _ _ (s7 _ _ e)) (aN e hqs6)
  have hThX:TabAt X a.tP_heap_look (jz b7) bu.qual:=TabAt.same (TabAt.same hTh5 s6) gX
  have hTX:TabAt X a.tP_law_watched (jT cH) cT.qual:=TabAt.same (TabAt.same hT5 s6) gX
  refine ⟨_,rfl,_,rfl,_,rfl,rfl,qs,_,rfl,SqL.of xus,fun l1 hl1=>?_⟩
  have t1:=aA hl1 (.lst us.reverse)
  refine ⟨qs,l1,_,_,rfl,rfl,t1 _ _ xus,az,by rw [List.length_reverse,hul,sizeLine_eq]; omega,fun l2 hl2=>?_⟩
  have t2:=t1.trans (aA hl2 (.lst (us ++ us.reverse)))
  have x2:upd (upd X l1 (.lst us.reverse)) l2 (.lst (us ++ us.reverse)) l2=some (.lst (us ++ us.reverse)):=az
  generalize upd (upd X l1 (.lst us.reverse)) l2 (.lst (us ++ us.reverse))=W0 at *
  have gW : ∀ b o,H6 b=some o→W0 b=some o:=fun b o e=>t2 _ _ (gX _ _ e)
  have hTh0:=TabAt.same hThX t2
  have hT0:=TabAt.same hTX t2
  have f : ∀ {Y:Hp} {b:Addr} {o:HO},Kt a.tP_heap_look a.tP_law_watched W0 Y→W0 b=some o→(∀ ps,o ≠ .tbl ps)→Y b=some o:=fun k e n=>k _ _ e (TabAt.ne hTh0 e n) (TabAt.ne hT0 e n)
  refine ⟨l2,rfl,⟨_,SqL.of x2⟩,?_⟩
  refine cO (xs:=us ++ us.reverse) (fun i σ Y=>(∃ k8 k9 k10 k11 k12 k13 k14,σ=[some (.ref sa),some (.ref p),some (.ref oc),some (.ref t),some (.ref g),some (.int ((many (brk ds 0).length:Nat):Int)),some (.ref fm),some (.ref qs),k8,k9,k10,k11,k12,k13,k14])∧Kt a.tP_heap_look a.tP_law_watched W0 Y∧TabAt Y a.tP_heap_look (jz b7) bu.qual∧TabAt Y a.tP_law_watched (jT cH) cT.qual) ⟨⟨_,_,_,_,_,_,_,rfl⟩,fun _ _ e _ _=>e,hTh0,hT0⟩ ?_ ?_ ?_
  ·rintro i σ Y _ ⟨_,k,_⟩
   exact SqL.of (f k x2 nofun)
  ·rintro i x σ Y hx ⟨⟨k8,k9,k10,k11,k12,k13,k14,rfl⟩,k,hThY,hTY⟩
   have hxm:x∈us:=by
    rcases List.mem_append.mp (List.mem_of_getElem? hx) with h | h
    ·exact h
    ·exact List.mem_reverse.mp h
   obtain ⟨ak,way,st,n1,n2,rfl,xak,hn1,hn2,hw0,hw1,hst⟩:=hus x hxm
   have fY : ∀ b o,H5 b=some o→(∀ ps,o ≠ .tbl ps)→Y b=some o:=fun b o e n=>f k (gW _ _ (s6 _ _ e)) n
   have hFY:Fam Y p fm el ol en ds xs ys es:=hF6.kept fun b o e n=>f k (gW _ _ e) n
   have kbY:=kb7 fY
   have cgY:cN Y g dD cs [.ref bl]:=cg5.same fun b o e=>fY _ _ e nofun
   have xakY:=f k (t2 _ _ xak) nofun
   refine ⟨(by show 0≤sizeLine; decide),fun sn hsn=>?_⟩
   have u1:=aA hsn (.lst [])
   have xsn1:upd Y sn (.lst []) sn=some (.lst []):=az
   have hTh1:=TabAt.same hThY u1
   have hT1:=TabAt.same hTY u1
   generalize upd Y sn (.lst [])=Y1 at *
   have nsb:sn ≠ bl:=(aN kbY.bls hsn).symm
   refine ⟨_,rfl,_,rfl,_,rfl,_,rfl,g,sn,bl,(cJ (brk ds 0)).map V.int,cs,?_,cgY.same (fun b o e=>u1 _ _ e),u1 _ _ kbY.bls,xsn1,nsb,hT1,fun fl Y2 nf b2 hT2 A2=>?_⟩
   ·show [V.ref g,V.int ((many (brk ds 0).length:Nat):Int),V.ref sn]=_
    rw [List.length_map,bA]
   have o2 : ∀ b o,Y b=some o→(∀ ps,o ≠ .tbl ps)→Y2 b=some o∧b ≠ a.tP_heap_look∧b ≠ sn:=fun b o e n=>⟨b2 b o (u1 _ _ e) (TabAt.ne hTY e n),TabAt.ne hThY e n,aN e hsn⟩
   have hTh2:=TabAt.other nhw hTh1 hT1 b2
   have xsn2:Y2 sn=some (.lst []):=b2 _ _ xsn1 (TabAt.ne hT1 xsn1 nofun)
   have blk : ∀ n,n < many (brk ds 0).length→((cJ (brk ds 0)).map V.int)[0 + n]?=some (.int (bK (brk ds 0) n)):=fun n hn=>by
    rw [Nat.zero_add,List.getElem?_map,gn hn]
    rfl
   have hN:Nd Y2 a.tP_heap_look ⟨t,⟨fl,some sn,bl,0,(cJ (brk ds 0)).map V.int⟩,ah,nd,brk ds 0,lows',S,hxs⟩ [] ds:=⟨⟨⟨⟨(o2 _ _ kbY.tab.tup nofun).1,(o2 _ _ kbY.tab.ahs nofun).1,kbY.tab.few⟩,A2,dO _ _,(by show (brk ds 0).length≤4096; omega),blk⟩,(o2 _ _ kbY.nds nofun).1,kbY.low,kbY.sz,kbY.heap,hTh2⟩,by simp,rfl,hg⟩
   refine ⟨_,rfl,⟨t,⟨fl,some sn,bl,0,(cJ (brk ds 0)).map V.int⟩,ah,nd,brk ds 0,lows',S,hxs⟩,ak,ds,way,st,n1,n2,rfl,(o2 _ _ xakY nofun).1,hN,hn1,hn2,hw0,hw1,hst,fun x ss Y3 hx d1 hl1=>?_⟩
   have o3 : ∀ b o,Y b=some o→(∀ ps,o ≠ .tbl ps)→Y3 b=some o:=fun b o e n=>by
    obtain ⟨e1,e2,e3⟩:=o2 b o e n
    exact d1.kp b o e1 e2 (fun z=>e3 (Option.some.inj z).symm)
   have hF3:Fam Y3 p fm el ol en ds xs ys es:=hFY.kept o3
   have xak3:=o3 _ _ xakY nofun
   refine ⟨_,rfl,_,rfl,_,rfl,_,rfl,p,fm,ak,el,ol,en,ds,xs,ys,es,way,st,n1,n2,rfl,hF3,xak3,hg,by omega,hn1,hn2,hw0,hw1,hst,fun y Y4 s4 hy=>?_⟩
   have:=hx.uniq hg hy
   subst this
   refine ⟨_,rfl,ak,_,_,_,rfl,rfl,SqT.of (s4 _ _ xak3),rfl,x,way,rfl,hx.kind,true,rfl,cW ?_⟩
   have l1:=d1.wr.len
   simp at l1
   have hw9 : ∃ most:Int,atI [V.int 8,V.int 12] (if decide (V.int way=V.int 9)=true then 1 else 0)=some (.int most)∧(ss.length:Int)≤most:=by
    by_cases z:way=9
    ·rw [decide_eq_true (congrArg V.int z),if_pos rfl]
     exact ⟨12,rfl,by omega⟩
    ·rw [decide_eq_false (fun y=>z (V.int.inj y)),if_neg (by decide)]
     exact ⟨8,rfl,by have:=hl1 z; omega⟩
   obtain ⟨most,em,hm⟩:=hw9
   have hin : ∀ z∈ss,0≤z∧z < ((many (brk ds 0).length:Nat):Int):=fun z hz=>by
    obtain ⟨tt,e,_,ht⟩:=d1.wr
    rw [e] at hz
    have:=ht z (by simpa using hz)
    have e2:((cJ (brk ds 0)).map V.int).length=many (brk ds 0).length:=by rw [List.length_map,bA]
    rw [← e2]
    exact this
   refine ⟨_,rfl,_,rfl,(by show 2≤sizeLine; decide),fun l5 hl5=>?_⟩
   have s5:=s4.trans (aA hl5 (.lst [.int 8,.int 12]))
   refine ⟨_,rfl,ak,_,_,_,rfl,rfl,SqT.of (s5 _ _ xak3),rfl,rfl,.inr ⟨_,rfl,l5,_,_,_,rfl,rfl,SqL.of az,em,sn,ss,_,most,rfl,s5 _ _ (d1.seen sn rfl),hin,hm,by omega,fun Y6 s6'=>⟨true,rfl,cW ?_⟩⟩⟩
   have s36:=s5.trans s6'
   refine ⟨⟨_,_,_,_,_,_,_,rfl⟩,fun b o e n1 n2=>?_,TabAt.same d1.tab s36,TabAt.same (TabAt.did nhw.symm hT2 hTh2 xsn2 fun b o e n1 n2=>d1.kp b o e n1 (fun z=>n2 (Option.some.inj z).symm)) s36⟩
   have e1:=k b o e n1 n2
   exact s36 _ _ (d1.kp b o (b2 b o (u1 _ _ e1) n2) n1 (fun z=>(aN e1 hsn) (Option.some.inj z).symm))
  ·rintro σ Y ⟨⟨k8,k9,k10,k11,k12,k13,k14,rfl⟩,_⟩
   exact q Y
end
theorem Il {l:PySem.W.OpenLaw} {w:World} {K:PySem.W.Frag} {h:Heap} {mg:Str→Option Value} {fa f0 f1 f2 f3 f4 f5 f6 f7 f8 f9 f10 f11 f12 f13 f14 f15 f16 f17 f18 f19 f20 f21 f22 f23 f24 f25 f26 f27 f28 f29 f30 f31 f32 f33 f34 f35 f36 f37 f38 f39 f40 f41 f42 f43 f44 f45 f46 f47 f48 f49 f50 f51 f52 f53 f54 f55 f56 f57 f58 f59 f60 f61 f62 f63 f64 f65 f66 f67 f68 f69 f70 f71 f72 f73 f74 f75 f76 f77 f78 f79 f80 f81 f82 f83 f84 f85 f86 f87 f88 f89 f90 f91 f92 f93 f94:Addr} {e0 e1 e2 e3 e4 e5 e6 e7 e8 e9 e10 e11 e13 e14 e15 e16 e17 e18 e19 e20 e21 e22 e23 e24 e25 e26 e27 e28 e29 e30 e31 e32 e33 e34 e35 e36 e37 e38 e39 e41 e42 e43 e44 e45 e46 e47 e48 e49 e50 e51 e52 e53 e54 e55 e56 e57 e58 e59 e60 e61 e62 e63 e64 e65 e66 e67 e68 e69 e70 e71 e72 e73 e74 e75 e76 e77 e78 e79 e80 e81 e82 e83 e84 e85 e86 e87 e88 e89 e90 e92 e93 e94:FuncData} {od12 an12 od40 an40 od91 an91:Option Addr} {sl12 sl40 sl91:Array (Option Value)} {oc12 kV12 dc12 pm12 ct12 oc40 kV40 dc40 pm40 ct40 oc91 kV91 dc91 pm91 ct91:Value} {tt_BLOCK_BITS tt_BLOCK_OCTETS tt_COUNT_OCTETS tt_MOST_BITS tt_MOST_NODES tt_MOST_NUMBERS tt_TREE:Tok} {c_NoNode c_WoodError:Addr} {tc_look_of tP_look_of tc_heap_look tP_heap_look tc_law_watched tP_law_watched:Addr} {to_look_of to_heap_look to_law_watched:Value} {td_look_of td_heap_look td_law_watched:Option Addr} {tv_look_of tv_heap_look tv_law_watched:Array Value} {ts_look_of ts_heap_look ts_law_watched:Array (Option Value)} {qq:Program} {loose:List Str} {mb:Str→Option Value} {mean:ExcName→Option Value} (X:K.In h) (TT:PyProof.Rows.Top qq loose mean mg mb h) (hfa:mg "law" = some (.ref fa))
  (d0:FI K "packed" sO f0 e0)
  (d1:FI K "check_row" lr f1 e1)
  (d2:FI K "block_of" mV f2 e2)
  (d3:FI K "unpacked" mL f3 e3)
  (d4:FI K "bit_in" tX f4 e4)
  (d5:FI K "bits_of" pK f5 e5)
  (d6:FI K "ones_in" oW f6 e6)
  (d7:FI K "one_in" uc f7 e7)
  (d8:FI K "nets_of" qg f8 e8)
  (d9:FI K "low_in" sY f9 e9)
  (d10:FI K "first_low_in" gr f10 e10)
  (d11:FI K "last_low_in" iI f11 e11)
  (a12:PySem.W.nsIn K mainGlobals "look_of" = some (some (.ref f12))) (l12:K.lookup f12=some ⟨oc12,od12,.func (PySem.W.fnOf "look_of" "look_of" (defArgs dm) (defBody dm) (defScope dm) .none kV12 dc12 pm12 an12 (.ref tc_look_of) ct12),sl12⟩) (c12:PySem.W.codeIn K (.ref tc_look_of) "look_of" = true) (k12:PySem.W.keepIn K (.ref f12)=true)
  (tl_look_of:K.lookup tc_look_of=some ⟨to_look_of,td_look_of,.fields tv_look_of,ts_look_of⟩) (tp_look_of:tv_look_of[11]?=some (.ref tP_look_of)) (tr_look_of : ∃ d,(PyProof.Rows.recsOf qq).find? (fun e=>e.name == ("look_of" : Str))=some d)
  (d13:FI K "octets_of" j4 f13 e13)
  (d14:FI K "number_of" kY f14 e14)
  (d15:FI K "kept_row" mU f15 e15)
  (d16:FI K "ahead_of" mO f16 e16)
  (d17:FI K "check_place" iK f17 e17)
  (d18:FI K "bit_at" rD f18 e18)
  (d19:FI K "ones_at" pI f19 e19)
  (d20:FI K "one_place" kW f20 e20)
  (d21:FI K "check_nth" kh f21 e21)
  (d22:FI K "last_no_greater" eG f22 e22)
  (d23:FI K "heap_of" pF f23 e23)
  (d24:FI K "size_of" pN f24 e24)
  (d25:FI K "lesser_of" j5 f25 e25)
  (d26:FI K "least_of" mC f26 e26)
  (d27:FI K "first_at_most" gb f27 e27)
  (d28:FI K "last_at_most" gG f28 e28)
  (d29:FI K "place_beneath" gf f29 e29)
  (d30:FI K "check_stretch" fV f30 e30)
  (d31:FI K "cover" wQ f31 e31)
  (d32:FI K "is_tree" o4 f32 e32)
  (d33:FI K "check_brackets" fc f33 e33)
  (d34:FI K "kept_brackets" fP f34 e34)
  (d35:FI K "low_of" sG f35 e35)
  (d36:FI K "base_of" pq f36 e36)
  (d37:FI K "start_within" gD f37 e37)
  (d38:FI K "end_within" jF f38 e38)
  (d39:FI K "block_count" iz f39 e39)
  (a40:PySem.W.nsIn K mainGlobals "heap_look" = some (some (.ref f40))) (l40:K.lookup f40=some ⟨oc40,od40,.func (PySem.W.fnOf "heap_look" "heap_look" (defArgs cC) (defBody cC) (defScope cC) .none kV40 dc40 pm40 an40 (.ref tc_heap_look) ct40),sl40⟩) (c40:PySem.W.codeIn K (.ref tc_heap_look) "heap_look" = true) (k40:PySem.W.keepIn K (.ref f40)=true)
  (tl_heap_look:K.lookup tc_heap_look=some ⟨to_heap_look,td_heap_look,.fields tv_heap_look,ts_heap_look⟩) (tp_heap_look:tv_heap_look[11]?=some (.ref tP_heap_look)) (tr_heap_look : ∃ d,(PyProof.Rows.recsOf qq).find? (fun e=>e.name == ("heap_look" : Str))=some d)
  (d41:FI K "height" tH f41 e41)
  (d42:FI K "lowest" rQ f42 e42)
  (d43:FI K "lowest_within" fZ f43 e43)
  (d44:FI K "low_behind" jJ f44 e44)
  (d45:FI K "first_within" gQ f45 e45)
  (d46:FI K "place_of_bit" gF f46 e46)
  (d47:FI K "low_ahead" kZ f47 e47)
  (d48:FI K "last_low_upto" fL f48 e48)
  (d49:FI K "last_within" iH f49 e49)
  (d50:FI K "check_bracket" fQ f50 e50)
  (d51:FI K "closing" qb f51 e51)
  (d52:FI K "opening" p7 f52 e52)
  (d53:FI K "further_out" iJ f53 e53)
  (d54:FI K "check_depths" gw f54 e54)
  (d55:FI K "brackets_of" iu f55 e55)
  (d56:FI K "depths_of" lq f56 e56)
  (d57:FI K "kept_tree" jV f57 e57)
  (d58:FI K "node_count" jy f58 e58)
  (d59:FI K "check_node" jw f59 e59)
  (d60:FI K "node_at" ph f60 e60)
  (d61:FI K "place_of" mX f61 e61)
  (d62:FI K "depth_of" lZ f62 e62)
  (d63:FI K "elder_of" m5 f63 e63)
  (d64:FI K "first_of" mj f64 e64)
  (d65:FI K "younger_of" jL f65 e65)
  (d66:FI K "older_of" mY f66 e66)
  (d67:FI K "beneath_of" jD f67 e67)
  (d68:FI K "up_of" v9 f68 e68)
  (d69:FI K "is_over" pW f69 e69)
  (d70:FI K "common_of" jU f70 e70)
  (d71:FI K "numbers_octets" fD f71 e71)
  (d72:FI K "bits_octets" iw f72 e72)
  (d73:FI K "tree_octets" iC f73 e73)
  (d74:FI K "read_tree" lw f74 e74)
  (d75:FI K "opened_tree" iM f75 e75)
  (d76:FI K "read_as" oU f76 e76)
  (d77:FI K "check_octets" gA f77 e77)
  (d78:FI K "number_at" kj f78 e78)
  (d79:FI K "numbers_at" jE f79 e79)
  (d80:FI K "block_total" il f80 e80)
  (d81:FI K "bits_at" qi f81 e81)
  (d82:FI K "told_bits" lB f82 e82)
  (d83:FI K "told_depths" iR f83 e83)
  (d84:FI K "_law_whole" j0 f84 e84)
  (d85:FI K "_law_depths" jC f85 e85)
  (d86:FI K "_law_family" jm f86 e86)
  (d87:FI K "_law_up" tD f87 e87)
  (d88:FI K "_law_both" my f88 e88)
  (d89:FI K "_law_due" o8 f89 e89)
  (d90:FI K "_law_told_by" iB f90 e90)
  (a91:PySem.W.nsIn K mainGlobals "_law_watched" = some (some (.ref f91))) (l91:K.lookup f91=some ⟨oc91,od91,.func (PySem.W.fnOf "_law_watched" "_law_watched" (defArgs bQ) (defBody bQ) (defScope bQ) .none kV91 dc91 pm91 an91 (.ref tc_law_watched) ct91),sl91⟩) (c91:PySem.W.codeIn K (.ref tc_law_watched) "_law_watched" = true) (k91:PySem.W.keepIn K (.ref f91)=true)
  (tl_law_watched:K.lookup tc_law_watched=some ⟨to_law_watched,td_law_watched,.fields tv_law_watched,ts_law_watched⟩) (tp_law_watched:tv_law_watched[11]?=some (.ref tP_law_watched)) (tr_law_watched : ∃ d,(PyProof.Rows.recsOf qq).find? (fun e=>e.name == ("_law_watched" : Str))=some d)
  (d92:FI K "_law_few" pL f92 e92)
  (d93:FI K "_law_right" jY f93 e93)
  (d94:FI K "law" Eu f94 e94)
  (z_bool:PySem.W.nsIn K mainGlobals "bool" = some none)
  (z_enumerate:PySem.W.nsIn K mainGlobals "enumerate" = some none)
  (z_int:PySem.W.nsIn K mainGlobals "int" = some none)
  (z_isinstance:PySem.W.nsIn K mainGlobals "isinstance" = some none)
  (z_len:PySem.W.nsIn K mainGlobals "len" = some none)
  (z_list:PySem.W.nsIn K mainGlobals "list" = some none)
  (z_max:PySem.W.nsIn K mainGlobals "max" = some none)
  (z_min:PySem.W.nsIn K mainGlobals "min" = some none)
  (z_range:PySem.W.nsIn K mainGlobals "range" = some none)
  (z_reversed:PySem.W.nsIn K mainGlobals "reversed" = some none)
  (z_set:PySem.W.nsIn K mainGlobals "set" = some none)
  (z_sum:PySem.W.nsIn K mainGlobals "sum" = some none)
  (z_tuple:PySem.W.nsIn K mainGlobals "tuple" = some none)
  (z_zip:PySem.W.nsIn K mainGlobals "zip" = some none)
  (g_BLOCK_BITS:PySem.W.nsIn K mainGlobals "BLOCK_BITS" = some (some (.int 32 tt_BLOCK_BITS)))
  (g_BLOCK_OCTETS:PySem.W.nsIn K mainGlobals "BLOCK_OCTETS" = some (some (.int 4 tt_BLOCK_OCTETS)))
  (g_COUNT_OCTETS:PySem.W.nsIn K mainGlobals "COUNT_OCTETS" = some (some (.int 2 tt_COUNT_OCTETS)))
  (g_MOST_BITS:PySem.W.nsIn K mainGlobals "MOST_BITS" = some (some (.int 4096 tt_MOST_BITS)))
  (g_MOST_NODES:PySem.W.nsIn K mainGlobals "MOST_NODES" = some (some (.int 2048 tt_MOST_NODES)))
  (g_MOST_NUMBERS:PySem.W.nsIn K mainGlobals "MOST_NUMBERS" = some (some (.int 4096 tt_MOST_NUMBERS)))
  (g_TREE:PySem.W.nsIn K mainGlobals "TREE" = some (some (.int 2 tt_TREE)))
  (q_NoNode:PySem.W.nsIn K mainGlobals "NoNode" = some (some (.ref c_NoNode)))
  (q_WoodError:PySem.W.nsIn K mainGlobals "WoodError" = some (some (.ref c_WoodError)))
  (ex_NoNode:PySem.W.excIn K c_NoNode bmV "ValueError.__new__" = true)
  (ed_NoNode:PySem.W.hasDictIn K c_NoNode=true)
  (ega_NoNode:PySem.W.findIn K (.ref c_NoNode) "__getattribute__" = some (some (.builtin "BaseException.__getattribute__")))
  (eng_NoNode:PySem.W.findIn K (.ref c_NoNode) "__getattr__" = some none)
  (ecl_NoNode:PySem.W.findIn K (.ref c_NoNode) "__class__" = some (some (.builtin "object.__class__")))
  (egt_NoNode:PySem.W.specialIn K (.builtin "object.__class__") "__get__" = some (some (.builtin "getset_descriptor.__get__")))
  (etk_NoNode:PySem.W.takesIn K (.builtin "object.__class__")=some true)
  (emo_NoNode:PySem.W.mroIn K c_NoNode (.type "object")=some true)
  (emb_NoNode:PySem.W.mroIn K c_NoNode (.type "BaseException")=some true)
  (i_NoNode_NoNode:PySem.W.kitOne K (.ref c_NoNode) (.ref c_NoNode)=some true)
  (i_NoNode_WoodError:PySem.W.kitOne K (.ref c_NoNode) (.ref c_WoodError)=some true)
  (i_NoNode_ValueError:PySem.W.kitOne K (.ref c_NoNode) (.type "ValueError")=some true)
  (ex_WoodError:PySem.W.excIn K c_WoodError bmV "ValueError.__new__" = true)
  (ed_WoodError:PySem.W.hasDictIn K c_WoodError=true)
  (ega_WoodError:PySem.W.findIn K (.ref c_WoodError) "__getattribute__" = some (some (.builtin "BaseException.__getattribute__")))
  (eng_WoodError:PySem.W.findIn K (.ref c_WoodError) "__getattr__" = some none)
  (ecl_WoodError:PySem.W.findIn K (.ref c_WoodError) "__class__" = some (some (.builtin "object.__class__")))
  (egt_WoodError:PySem.W.specialIn K (.builtin "object.__class__") "__get__" = some (some (.builtin "getset_descriptor.__get__")))
  (etk_WoodError:PySem.W.takesIn K (.builtin "object.__class__")=some true)
  (emo_WoodError:PySem.W.mroIn K c_WoodError (.type "object")=some true)
  (emb_WoodError:PySem.W.mroIn K c_WoodError (.type "BaseException")=some true)
  (i_WoodError_NoNode:PySem.W.kitOne K (.ref c_WoodError) (.ref c_NoNode)=some false)
  (i_WoodError_WoodError:PySem.W.kitOne K (.ref c_WoodError) (.ref c_WoodError)=some true)
  (i_WoodError_ValueError:PySem.W.kitOne K (.ref c_WoodError) (.type "ValueError")=some true)
  (nt:PySem.W.noTabs K=true)
  (nn_look_of_heap_look:tP_look_of ≠ tP_heap_look)
  (nn_look_of_law_watched:tP_look_of ≠ tP_law_watched)
  (nn_heap_look_law_watched:tP_heap_look ≠ tP_law_watched) :
  ∃ (fd:FuncData) (tabs:List (Addr × Addr)) (sp:Sp),(∀ (s:Shared) (v:Value),BindsTo s fd ⟨[v],[]⟩ [("_law_script", v)])∧PySem.W.TabsAt tabs h∧PySem.W.noTabs K=true∧(∀ base:Heap,K.In base→base.Ns mainGlobals mg→BMain mg base→(∀ q∈tabs,PySem.W.CodeHd base q.1 q.2)→aX l.prog w K mg base CX0 13 fa fd ["_law_script"] sp) ∧
   ∀ (H:Hp) (a:Addr) (ns:List Int),ns.length≤63→SqL K H a (ns.map V.int)→(∀ q∈tabs,H q.2=some (.tbl #[]))→sp [.ref a] H (fun v _=>v=.bl true) fun _ _ _=>False:=by
 have G:=TT.g
 have e:=hfa.symm.trans (PySem.W.mg_of X G d94.a)
 cases e
 obtain ⟨_,_,_,_,_,_,_,_,_,rfl,_,_⟩:=d94.F.ex
 have F12:=vP (st:=dm) l12 c12 k12
 have D12:Df K mg "look_of" dm ["blocks"] _ _:=⟨F12,F12.binds (ps:=["blocks"]) fun _ _ _ _ _ _ us hl=>Ex (C:=fun us=>bindArgs _ ⟨us,[]⟩=pure (List.zip (["blocks"]:List Str) us)) hl (fun _=>rfl),PySem.W.mg_of X G a12⟩
 have F40:=vP (st:=cC) l40 c40 k40
 have D40:Df K mg "heap_look" cC ["tables"] _ _:=⟨F40,F40.binds (ps:=["tables"]) fun _ _ _ _ _ _ us hl=>Ex (C:=fun us=>bindArgs _ ⟨us,[]⟩=pure (List.zip (["tables"]:List Str) us)) hl (fun _=>rfl),PySem.W.mg_of X G a40⟩
 have F91:=vP (st:=bQ) l91 c91 k91
 have D91:Df K mg "_law_watched" bQ ["_law_look", "_law_size", "_law_seen"] _ _:=⟨F91,F91.binds (ps:=["_law_look", "_law_size", "_law_seen"]) fun _ _ _ _ _ _ us hl=>Hf (C:=fun us=>bindArgs _ ⟨us,[]⟩=pure (List.zip (["_law_look", "_law_size", "_law_seen"]:List Str) us)) hl (fun _ _ _=>rfl),PySem.W.mg_of X G a91⟩
 have T:Tx K mg ⟨tc_look_of,tP_look_of,tc_heap_look,tP_heap_look,tc_law_watched,tP_law_watched,_,_,_,_,_,_,_,_,_,_,_,_,_,_,_,_,_,_,_,_,_,_,_,_,_,_,_,_,_,_,_,_,_,_,_,_,_,_,_,_,_,_,_,_,_,_,_,_,_,_,_,_,_,_,_,_,_,_,_,_,_,_,_,_,_,_,_,_,_,_,_,_,_,_,_,_,_,_,_,_,_,_,_,_,_,_,_,_,_,_,_,_,_,_,_,_,_,_,_,_,_,_,_,_,_,_,_,_,_,_,_,_,_,_,_,_,_,_,_,_,_,_,_,_,_,_,_,_,_,_,_,_,_,_,_,_,_,_,_,_,_,_,_,_,_,_,_,_,_,_,_,_,_,_,_,_,_,_,_,_,_,_,_,_,_,_,_,_,_,_,_,_,_,_,_,_,_,_,_,_,_,_,_,_,_,_,_,_,_,_,_,_,_,_,_,_,_,c_NoNode,c_WoodError⟩:=⟨df1 X G d0 fun _ _ _ _ _ _ _=>rfl,df1 X G d1 fun _ _ _ _ _ _ _=>rfl,df1 X G d2 fun _ _ _ _ _ _ _=>rfl,df2 X G d3 fun _ _ _ _ _ _ _ _=>rfl,df2 X G d4 fun _ _ _ _ _ _ _ _=>rfl,df2 X G d5 fun _ _ _ _ _ _ _ _=>rfl,df2 X G d6 fun _ _ _ _ _ _ _ _=>rfl,df2 X G d7 fun _ _ _ _ _ _ _ _=>rfl,df2 X G d8 fun _ _ _ _ _ _ _ _=>rfl,df2 X G d9 fun _ _ _ _ _ _ _ _=>rfl,df4 X G d10 fun _ _ _ _ _ _ _ _ _ _=>rfl,df4 X G d11 fun _ _ _ _ _ _ _ _ _ _=>rfl,D12,df2 X G d13 fun _ _ _ _ _ _ _ _=>rfl,df1 X G d14 fun _ _ _ _ _ _ _=>rfl,df1 X G d15 fun _ _ _ _ _ _ _=>rfl,df1 X G d16 fun _ _ _ _ _ _ _=>rfl,df2 X G d17 fun _ _ _ _ _ _ _ _=>rfl,df3 X G d18 fun _ _ _ _ _ _ _ _ _=>rfl,df3 X G d19 fun _ _ _ _ _ _ _ _ _=>rfl,df3 X G d20 fun _ _ _ _ _ _ _ _ _=>rfl,df2 X G d21 fun _ _ _ _ _ _ _ _=>rfl,df2 X G d22 fun _ _ _ _ _ _ _ _=>rfl,df1 X G d23 fun _ _ _ _ _ _ _=>rfl,df1 X G d24 fun _ _ _ _ _ _ _=>rfl,df2 X G d25 fun _ _ _ _ _ _ _ _=>rfl,df4 X G d26 fun _ _ _ _ _ _ _ _ _ _=>rfl,df4 X G d27 fun _ _ _ _ _ _ _ _ _ _=>rfl,df4 X G d28 fun _ _ _ _ _ _ _ _ _ _=>rfl,df5 X G d29 fun _ _ _ _ _ _ _ _ _ _ _=>rfl,df3 X G d30 fun _ _ _ _ _ _ _ _ _=>rfl,df3 X G d31 fun _ _ _ _ _ _ _ _ _=>rfl,df1 X G d32 fun _ _ _ _ _ _ _=>rfl,df1 X G d33 fun _ _ _ _ _ _ _=>rfl,df1 X G d34 fun _ _ _ _ _ _ _=>rfl,df3 X G d35 fun _ _ _ _ _ _ _ _ _=>rfl,df2 X G d36 fun _ _ _ _ _ _ _ _=>rfl,df2 X G d37 fun _ _ _ _ _ _ _ _=>rfl,df2 X G d38 fun _ _ _ _ _ _ _ _=>rfl,df1 X G d39 fun _ _ _ _ _ _ _=>rfl,D40,df3 X G d41 fun _ _ _ _ _ _ _ _ _=>rfl,df4 X G d42 fun _ _ _ _ _ _ _ _ _ _=>rfl,df5 X G d43 fun _ _ _ _ _ _ _ _ _ _ _=>rfl,df4 X G d44 fun _ _ _ _ _ _ _ _ _ _=>rfl,df5 X G d45 fun _ _ _ _ _ _ _ _ _ _ _=>rfl,df2 X G d46 fun _ _ _ _ _ _ _ _=>rfl,df4 X G d47 fun _ _ _ _ _ _ _ _ _ _=>rfl,df4 X G d48 fun _ _ _ _ _ _ _ _ _ _=>rfl,df5 X G d49 fun _ _ _ _ _ _ _ _ _ _ _=>rfl,df4 X G d50 fun _ _ _ _ _ _ _ _ _ _=>rfl,df3 X G d51 fun _ _ _ _ _ _ _ _ _=>rfl,df3 X G d52 fun _ _ _ _ _ _ _ _ _=>rfl,df4 X G d53 fun _ _ _ _ _ _ _ _ _ _=>rfl,df1 X G d54 fun _ _ _ _ _ _ _=>rfl,df1 X G d55 fun _ _ _ _ _ _ _=>rfl,df1 X G d56 fun _ _ _ _ _ _ _=>rfl,df1 X G d57 fun _ _ _ _ _ _ _=>rfl,df1 X G d58 fun _ _ _ _ _ _ _=>rfl,df2 X G d59 fun _ _ _ _ _ _ _ _=>rfl,df3 X G d60 fun _ _ _ _ _ _ _ _ _=>rfl,df3 X G d61 fun _ _ _ _ _ _ _ _ _=>rfl,df3 X G d62 fun _ _ _ _ _ _ _ _ _=>rfl,df3 X G d63 fun _ _ _ _ _ _ _ _ _=>rfl,df3 X G d64 fun _ _ _ _ _ _ _ _ _=>rfl,df3 X G d65 fun _ _ _ _ _ _ _ _ _=>rfl,df3 X G d66 fun _ _ _ _ _ _ _ _ _=>rfl,df3 X G d67 fun _ _ _ _ _ _ _ _ _=>rfl,df4 X G d68 fun _ _ _ _ _ _ _ _ _ _=>rfl,df4 X G d69 fun _ _ _ _ _ _ _ _ _ _=>rfl,df4 X G d70 fun _ _ _ _ _ _ _ _ _ _=>rfl,df2 X G d71 fun _ _ _ _ _ _ _ _=>rfl,df2 X G d72 fun _ _ _ _ _ _ _ _=>rfl,df1 X G d73 fun _ _ _ _ _ _ _=>rfl,df1 X G d74 fun _ _ _ _ _ _ _=>rfl,df1 X G d75 fun _ _ _ _ _ _ _=>rfl,df3 X G d76 fun _ _ _ _ _ _ _ _ _=>rfl,df1 X G d77 fun _ _ _ _ _ _ _=>rfl,df3 X G d78 fun _ _ _ _ _ _ _ _ _=>rfl,df4 X G d79 fun _ _ _ _ _ _ _ _ _ _=>rfl,df1 X G d80 fun _ _ _ _ _ _ _=>rfl,df3 X G d81 fun _ _ _ _ _ _ _ _ _=>rfl,df1 X G d82 fun _ _ _ _ _ _ _=>rfl,df1 X G d83 fun _ _ _ _ _ _ _=>rfl,df1 X G d84 fun _ _ _ _ _ _ _=>rfl,df2 X G d85 fun _ _ _ _ _ _ _ _=>rfl,df1 X G d86 fun _ _ _ _ _ _ _=>rfl,df3 X G d87 fun _ _ _ _ _ _ _ _ _=>rfl,df3 X G d88 fun _ _ _ _ _ _ _ _ _=>rfl,df3 X G d89 fun _ _ _ _ _ _ _ _ _=>rfl,df3 X G d90 fun _ _ _ _ _ _ _ _ _=>rfl,D91,df3 X G d92 fun _ _ _ _ _ _ _ _ _=>rfl,df3 X G d93 fun _ _ _ _ _ _ _ _ _=>rfl,df1 X G d94 fun _ _ _ _ _ _ _=>rfl,PySem.W.mg_none_of X G z_bool,PySem.W.mg_none_of X G z_enumerate,PySem.W.mg_none_of X G z_int,PySem.W.mg_none_of X G z_isinstance,PySem.W.mg_none_of X G z_len,PySem.W.mg_none_of X G z_list,PySem.W.mg_none_of X G z_max,PySem.W.mg_none_of X G z_min,PySem.W.mg_none_of X G z_range,PySem.W.mg_none_of X G z_reversed,PySem.W.mg_none_of X G z_set,PySem.W.mg_none_of X G z_sum,PySem.W.mg_none_of X G z_tuple,PySem.W.mg_none_of X G z_zip,PySem.W.mg_of X G g_BLOCK_BITS,PySem.W.mg_of X G g_BLOCK_OCTETS,PySem.W.mg_of X G g_COUNT_OCTETS,PySem.W.mg_of X G g_MOST_BITS,PySem.W.mg_of X G g_MOST_NODES,PySem.W.mg_of X G g_MOST_NUMBERS,PySem.W.mg_of X G g_TREE,PySem.W.mg_of X G q_NoNode,PySem.W.mg_of X G q_WoodError,⟨PySem.W.mg_of X G q_NoNode,ex_NoNode⟩,⟨ed_NoNode,ega_NoNode,eng_NoNode,ecl_NoNode,egt_NoNode,etk_NoNode,emo_NoNode,emb_NoNode⟩,i_NoNode_NoNode,i_NoNode_WoodError,i_NoNode_ValueError,⟨PySem.W.mg_of X G q_WoodError,ex_WoodError⟩,⟨ed_WoodError,ega_WoodError,eng_WoodError,ecl_WoodError,egt_WoodError,etk_WoodError,emo_WoodError,emb_WoodError⟩,i_WoodError_NoNode,i_WoodError_WoodError,i_WoodError_ValueError,rfl,rfl,rfl⟩
 obtain ⟨d_look_of,tr_look_of⟩:=tr_look_of
 have tb_look_of:=PySem.W.tab_of TT X tr_look_of (tu a12 l12 rfl tl_look_of tp_look_of)
 obtain ⟨d_heap_look,tr_heap_look⟩:=tr_heap_look
 have tb_heap_look:=PySem.W.tab_of TT X tr_heap_look (tu a40 l40 rfl tl_heap_look tp_heap_look)
 obtain ⟨d_law_watched,tr_law_watched⟩:=tr_law_watched
 have tb_law_watched:=PySem.W.tab_of TT X tr_law_watched (tu a91 l91 rfl tl_law_watched tp_law_watched)
 exact ⟨_,[(tc_look_of,tP_look_of),(tc_heap_look,tP_heap_look),(tc_law_watched,tP_law_watched)],sp_law K tP_look_of tP_heap_look tP_law_watched,fun s v=>.of_eq rfl,List.forall_mem_cons.mpr ⟨tb_look_of,List.forall_mem_cons.mpr ⟨tb_heap_look,List.forall_mem_cons.mpr ⟨tb_law_watched,fun _ z=>nomatch z⟩⟩⟩,nt,fun base _ _ bm hc=>Iz T ⟨bm,hc _ (.head _),hc _ (.tail _ (.head _)),hc _ (.tail _ (.tail _ (.head _))),nn_look_of_heap_look,nn_look_of_law_watched,nn_heap_look_law_watched⟩,fun H a ns hl hS hTb=>CK hS hl (hTb _ (.head _)) (hTb _ (.tail _ (.head _))) (hTb _ (.tail _ (.tail _ (.head _))))⟩
end Tw
namespace Tp
open PySem
noncomputable section
abbrev O := Params → Obj
def sq (l : List Str) : Nat → List Value := @List.rec Str (fun _ => Nat → List Value) (fun _ => []) (fun s _ ih t => Value.str s t :: ih (Nat.add t 1)) l
def ap {α : Type} (a b : List α) : List α := @List.rec α (fun _ => List α) b (fun x _ r => x :: r) a
def tk {α : Type} (l : List α) : Nat → List α := @List.rec α (fun _ => Nat → List α) (fun _ => []) (fun x _ ih n => @Nat.rec (fun _ => List α) [] (fun m _ => x :: ih m) n) l
def mp {α β : Type} (f : α → β) (l : List α) : List β := @List.rec α (fun _ => List β) [] (fun x _ r => f x :: r) l
def ov (l : List O) : List (Nat × O) → List O := @List.rec O (fun _ => List (Nat × O) → List O) (fun _ => []) (fun x _ ih ex => @List.rec (Nat × O) (fun _ => List O) (x :: ih []) (fun e r _ => @Nat.rec (fun _ => List O) (e.2 :: ih r) (fun g _ => x :: ih ((g, e.2) :: r)) e.1) ex) l
def ev (l : List Obj) : Bool → List Obj := @List.rec Obj (fun _ => Bool → List Obj) (fun _ => []) (fun x _ ih b => @Bool.rec (fun _ => List Obj) (ih true) (x :: ih false) b) l
def bt (n : Nat) : List Obj → PySem.W.BT := @Nat.rec (fun _ => List Obj → PySem.W.BT) (fun _ => .nil) (fun _ ih l => @List.rec Obj (fun _ => PySem.W.BT) .nil (fun x xs _ => .node x (ih (ev xs true)) (ih (ev xs false))) l) n
def Z (s : Str) (t : Nat) (v : Value) (P : Params) : DictEntry := .mk (PyData.keyHash P s) (.str s t) v
def E (s : Str) (t r : Nat) (P : Params) : DictEntry := .mk (PyData.keyHash P s) (.str s t) (.ref r)
def gd (l : List (Params → DictEntry)) (n : Nat) (P : Params) : Obj := .mk (.type "dict") none (.dict (mp (fun e => e P) l).toArray n) #[]
def tb (l : List (Nat × Nat)) (P : Params) : Obj := .mk .none none (.fields (@List.rec (Nat × Nat) (fun _ => List Value) [] (fun x _ r => .int (Int.ofNat x.1) 0 :: .int 0 0 :: .ref x.2 :: r) l).toArray) #[]
def h0 (x0 : Nat) (x1 : Nat) (x2 : Nat) (x3 : Str) : List O := [fun P => (.mk (.type "tuple") none (.seq #[(.ref 24)] 0) #[]), fun P => (.mk (.type "builtin_function_or_method") none (.fields #[(.builtin "type.__prepare__"), (.type "type")]) #[]), fun P => (.mk (.type "dict") none (.dict #[(.mk (PyData.keyHash P "__module__") (.str "__module__" (Nat.add x0 7)) (.str "thinwood.errors" 187)), (.mk (PyData.keyHash P "__qualname__") (.str "__qualname__" (Nat.add x0 9)) (.str x3 (Nat.add x0 8))), (.mk (PyData.keyHash P "__firstlineno__") (.str "__firstlineno__" (Nat.add x0 11)) (.int (Int.ofNat x1) (Nat.add x0 10))), (.mk (PyData.keyHash P "__static_attributes__") (.str "__static_attributes__" (Nat.add x0 12)) (.ref (Nat.add x2 7)))] 4) #[]), fun P => (.mk (.type "tuple") none (.seq #[] 0) #[]), fun P => (.mk .none none (.fields #[]) #[]), fun P => (.mk (.type "code") none (.fields #[(.str x3 (Nat.add x0 2)), (.str x3 (Nat.add x0 3)), (.str "/claim/cut.py" (Nat.add x0 4)), (.int (Int.ofNat x1) 0), (.int 0 0), (.int 0 0), (.int 0 0), (.int 0 0), (.ref (Nat.add x2 3)), (.bool .false), (.int 181 0), (.ref (Nat.add x2 4)), .none, .none, .none, .none, (.int (Int.ofNat (Nat.add x0 5)) 0), (.int (Int.ofNat x1) 0), (.str "/claim/cut.py" (Nat.add x0 6))]) #[]), fun P => (.mk (.type "frame") none .plain #[(some (.ref (Nat.add x2 5))), (some (.ref 3)), (some (.ref (Nat.add x2 2))), none, (some (.str "thinwood.errors" 187)), none, (some (.ref 0))]), fun P => (.mk (.type "tuple") none (.seq #[] 0) #[]), fun P => (.mk (.type "dict") none (.dict #[(.mk (PyData.keyHash P "__module__") (.str "__module__" (Nat.add x0 7)) (.str "thinwood.errors" 187)), (.mk (PyData.keyHash P "__firstlineno__") (.str "__firstlineno__" (Nat.add x0 11)) (.int (Int.ofNat x1) (Nat.add x0 10))), (.mk (PyData.keyHash P "__static_attributes__") (.str "__static_attributes__" (Nat.add x0 12)) (.ref (Nat.add x2 7))), (.mk (PyData.keyHash P "__doc__") (.str "__doc__" (Nat.add x0 13)) .none)] 2) #[]), fun P => (.mk (.type "type") none (.cls (.mk x3 [(.ref 24)] [(.ref (Nat.add x2 9)), (.ref 24), (.type "ValueError"), (.type "Exception"), (.type "BaseException"), (.type "object")] (Nat.add x2 8) x3 .true [] [] .false none .false)) #[(some (.ref x2)), none, (some (.str x3 x0)), (some (.str x3 (Nat.add x0 8))), (some (.builtin "ValueError.__new__")), (some (.bool .true))]), fun P => (.mk (.type "super") none (.fields #[(.ref (Nat.add x2 9)), (.ref (Nat.add x2 9)), (.ref (Nat.add x2 9))]) #[]), fun P => (.mk (.type "builtin_function_or_method") none (.fields #[(.builtin "object.__init_subclass__"), (.ref (Nat.add x2 9))]) #[])]
def h1 (x0 : Nat) (x1 : Nat) (x2 : Nat) (x3 : Nat) (x4 : Nat) (x5 : Nat) (x6 : Str) (x7 : Str) : List O := [fun P => (.mk (.type "tuple") none (.seq #[] 0) #[]), fun P => (.mk .none none (.fields #[]) #[]), fun P => (.mk .none none (.func (FuncData.mk x6 x6 (L2.defArgs (Tw.top x0)) (FuncBody.stmts (L2.defBody (Tw.top x0))) (L2.defScope (Tw.top x0)) 0 [] .none .none .none .none none .none .none 0)) #[]), fun P => (.mk (.type "code") none (.fields #[(.str x6 x1), (.str x6 (Nat.add x1 1)), (.str "/claim/cut.py" (Nat.add x1 2)), (.int (Int.ofNat x2) 0), (.int (Int.ofNat x3) 0), (.int 0 0), (.int 0 0), (.int 3 0), (.ref x4), (.bool .true), (.int 181 0), (.ref (Nat.add x4 1)), .none, .none, .none, (.ref (Nat.add x4 2)), (.int (Int.ofNat (Nat.add x1 3)) 0), (.int (Int.ofNat x2) 0), (.str "/claim/cut.py" (Nat.add x1 4))]) #[]), fun P => (.mk (.type "function") none (.func (FuncData.mk x6 x6 (L2.defArgs (Tw.top x0)) (FuncBody.stmts (L2.defBody (Tw.top x0))) (L2.defScope (Tw.top x0)) 3 [] .none .none .none (.str x7 x5) none (.ref (Nat.add x4 3)) .none 0)) #[])]
def h2 (x0 : Nat) (x1 : Nat) (x2 : Nat) (x3 : Nat) (x4 : Nat) (x5 : Nat) (x6 : Nat) (x7 : List Str) (x8 : Str) (x9 : Str) : List O := [fun P => (.mk (.type "tuple") none (.seq #[] 0) #[]), fun P => (.mk .none none (.fields #[]) #[]), fun P => (.mk (.type "tuple") none (.seq (sq x7 (Nat.add x0 3)).toArray 0) #[]), fun P => (.mk (.type "tuple") none (.seq #[] 0) #[]), fun P => (.mk .none none (.func (FuncData.mk x8 x8 (L2.defArgs (Tw.top x1)) (FuncBody.stmts (L2.defBody (Tw.top x1))) (L2.defScope (Tw.top x1)) 0 [] .none .none .none .none none .none .none 0)) #[]), fun P => (.mk (.type "code") none (.fields #[(.str x8 x0), (.str x8 (Nat.add x0 1)), (.str "/claim/cut.py" (Nat.add x0 2)), (.int (Int.ofNat x2) 0), (.int (Int.ofNat x3) 0), (.int 0 0), (.int 0 0), (.int 3 0), (.ref x4), (.bool .true), (.int 181 0), (.ref (Nat.add x4 1)), .none, (.ref (Nat.add x4 2)), (.ref (Nat.add x4 3)), (.ref (Nat.add x4 4)), (.int (Int.ofNat x5) 0), (.int (Int.ofNat x2) 0), (.str "/claim/cut.py" (Nat.add x5 1))]) #[]), fun P => (.mk (.type "function") none (.func (FuncData.mk x8 x8 (L2.defArgs (Tw.top x1)) (FuncBody.stmts (L2.defBody (Tw.top x1))) (L2.defScope (Tw.top x1)) 3 [] .none .none .none (.str x9 x6) none (.ref (Nat.add x4 5)) .none 0)) #[])]
def g0 : List (Params → DictEntry) := [Z "__doc__" 166 .none, Z "__package__" 167 .none, Z "__loader__" 168 (.builtin "__main__.__loader__#opaque"), Z "__spec__" 169 .none, E "__annotations__" 170 6, E "__builtins__" 171 4, Z "__file__" 173 (.str "/claim/cut.py" 172), Z "__cached__" 174 .none, E "WoodError" 206 24, E "TooMany" 222 37]
def g1 : List (Params → DictEntry) := [E "NoBit" 238 49, E "NoPlace" 254 61, E "NoNode" 270 73, E "NoTree" 286 85, E "NoOctets" 302 97, Z "BLOCK_BITS" 306 (.int 32 305), Z "MOST_BITS" 308 (.int 4096 307), E "packed" 314 104, E "check_row" 322 111, E "block_of" 331 118]
def g2 : List (Params → DictEntry) := [E "unpacked" 341 125, E "bit_in" 349 132, E "bits_of" 355 137, E "ones_in" 363 144, E "one_in" 374 151, E "nets_of" 385 158, E "low_in" 393 165, E "first_low_in" 405 172, E "last_low_in" 418 179, E "look_of" 427 186]
def g3 : List (Params → DictEntry) := [E "octets_of" 440 193, E "number_of" 449 200, E "kept_row" 459 207, E "ahead_of" 468 214, E "check_place" 476 221, E "bit_at" 485 228, E "ones_at" 498 235, E "one_place" 509 242, E "check_nth" 517 249, E "last_no_greater" 528 256]
def g4 : List (Params → DictEntry) := [Z "MOST_NUMBERS" 532 (.int 4096 531), E "heap_of" 542 263, E "size_of" 550 270, E "lesser_of" 558 277, E "least_of" 564 282, E "first_at_most" 575 289, E "last_at_most" 586 296, E "place_beneath" 598 303, E "check_stretch" 607 310, E "cover" 621 317]
def g5 : List (Params → DictEntry) := [E "is_tree" 633 324, E "check_brackets" 640 331, E "kept_brackets" 646 336, E "low_of" 655 343, E "base_of" 663 350, E "start_within" 671 357, E "end_within" 679 364, E "block_count" 686 371, E "heap_look" 694 378, E "height" 703 385]
def g6 : List (Params → DictEntry) := [E "lowest" 716 392, E "lowest_within" 728 399, E "low_behind" 741 406, E "first_within" 754 413, E "place_of_bit" 762 420, E "low_ahead" 773 427, E "last_low_upto" 786 434, E "last_within" 798 441, E "check_bracket" 808 448, E "closing" 817 455]
def g7 : List (Params → DictEntry) := [E "opening" 826 462, E "further_out" 836 469, Z "MOST_NODES" 840 (.int 2048 839), E "check_depths" 849 476, E "brackets_of" 859 483, E "depths_of" 869 490, E "kept_tree" 876 497, E "node_count" 885 504, E "check_node" 893 511, E "node_at" 902 518]
def g8 : List (Params → DictEntry) := [E "place_of" 911 525, E "depth_of" 920 532, E "elder_of" 929 539, E "first_of" 939 546, E "younger_of" 949 553, E "older_of" 959 560, E "beneath_of" 969 567, E "up_of" 980 574, E "is_over" 991 581, E "common_of" 1005 588]
def g9 : List (Params → DictEntry) := [Z "TREE" 1009 (.int 2 1008), Z "COUNT_OCTETS" 1011 (.int 2 1010), Z "BLOCK_OCTETS" 1013 (.int 4 1012), E "numbers_octets" 1023 595, E "bits_octets" 1031 602, E "tree_octets" 1044 609, E "read_tree" 1051 616, E "opened_tree" 1059 623, E "read_as" 1070 630, E "check_octets" 1078 637]
def g10 : List (Params → DictEntry) := [E "number_at" 1087 644, E "numbers_at" 1093 649, E "block_total" 1100 656, E "bits_at" 1109 663, E "told_bits" 1116 670, E "told_depths" 1123 677, E "_law_whole" 1132 684, E "_law_depths" 1146 691, E "_law_family" 1159 698, E "_law_up" 1168 705]
def g11 : List (Params → DictEntry) := [E "_law_both" 1177 712, E "_law_due" 1193 719, E "_law_told_by" 1206 726, E "_law_watched" 1219 733, E "_law_few" 1229 740, E "_law_right" 1238 747, E "law" 1259 754]
def gg : List (Params → DictEntry) := ap g0 (ap g1 (ap g2 (ap g3 (ap g4 (ap g5 (ap g6 (ap g7 (ap g8 (ap g9 (ap g10 (g11)))))))))))
def tt : List (Nat × Nat) := [(2, 20), (4, 33), (6, 45), (8, 57), (10, 69), (12, 81), (14, 93), (19, 103), (22, 110), (28, 117), (33, 124), (40, 131), (42, 136), (44, 143), (46, 150), (53, 157), (60, 164), (62, 171), (67, 178), (73, 185), (80, 192), (87, 199), (93, 206), (96, 213), (101, 220), (104, 227), (107, 234), (116, 241), (121, 248), (124, 255), (136, 262), (144, 269), (149, 276), (155, 281), (157, 288), (162, 295), (167, 302), (174, 309), (177, 316), (195, 323), (202, 330), (206, 335), (213, 342), (215, 349), (217, 356), (219, 363), (221, 370), (223, 377), (226, 384), (228, 391), (239, 398), (242, 405), (254, 412), (258, 419), (262, 426), (268, 433), (279, 440), (282, 447), (285, 454), (288, 461), (291, 468), (298, 475), (306, 482), (315, 489), (324, 496), (327, 503), (329, 510), (332, 517), (336, 524), (339, 531), (341, 538), (343, 545), (348, 552), (353, 559), (358, 566), (361, 573), (366, 580), (370, 587), (380, 594), (385, 601), (387, 608), (395, 615), (397, 622), (400, 629), (410, 636), (414, 643), (418, 648), (420, 655), (422, 662), (424, 669), (426, 676), (429, 683), (431, 690), (446, 697), (462, 704), (467, 711), (474, 718), (496, 725), (517, 732), (525, 739), (530, 746), (536, 753)]
def s0 : O := gd (Z "__name__" 165 (.str "law_thinwood_k90_whole_tree_opened" 1124) :: tk gg 117) 118
def l0 : O := fun P => (.mk (.type "tuple") none (.seq #[] 0) #[])
def s1 : O := tb (tk tt 102)
def l1 : O := fun P => (.mk (.type "code") none (.fields #[(.str "<module>" 182), (.str "<module>" 183), (.str "/claim/cut.py" 184), (.int 1 0), (.int 0 0), (.int 0 0), (.int 0 0), (.int 0 0), (.ref 11), (.bool .false), (.int 181 0), (.ref 12), .none, .none, .none, .none, (.int 185 0), (.int 1 0), (.str "/claim/cut.py" 186)]) #[])
def l2 : O := fun P => (.mk (.type "frame") none .plain #[(some (.ref 13)), (some (.ref 3)), (some (.ref 3)), none, (some (.str "__main__" 164)), none, (some (.ref 0))])
def l3 : O := fun P => (.mk (.type "tuple") none (.seq #[(.type "ValueError")] 0) #[])
def l4 : O := fun P => (.mk (.type "builtin_function_or_method") none (.fields #[(.builtin "type.__prepare__"), (.type "type")]) #[])
def l5 : O := fun P => (.mk (.type "dict") none (.dict #[(.mk (PyData.keyHash P "__module__") (.str "__module__" 196) (.str "thinwood.errors" 187)), (.mk (PyData.keyHash P "__qualname__") (.str "__qualname__" 198) (.str "WoodError" 197)), (.mk (PyData.keyHash P "__firstlineno__") (.str "__firstlineno__" 200) (.int 2 199)), (.mk (PyData.keyHash P "__static_attributes__") (.str "__static_attributes__" 201) (.ref 22))] 4) #[])
def l6 : O := fun P => (.mk .none none (.fields #[]) #[])
def l7 : O := fun P => (.mk (.type "code") none (.fields #[(.str "WoodError" 191), (.str "WoodError" 192), (.str "/claim/cut.py" 193), (.int 2 0), (.int 0 0), (.int 0 0), (.int 0 0), (.int 0 0), (.ref 18), (.bool .false), (.int 181 0), (.ref 19), .none, .none, .none, .none, (.int 194 0), (.int 2 0), (.str "/claim/cut.py" 195)]) #[])
def l8 : O := fun P => (.mk (.type "frame") none .plain #[(some (.ref 20)), (some (.ref 3)), (some (.ref 17)), none, (some (.str "thinwood.errors" 187)), none, (some (.ref 0))])
def l9 : O := fun P => (.mk (.type "dict") none (.dict #[(.mk (PyData.keyHash P "__module__") (.str "__module__" 196) (.str "thinwood.errors" 187)), (.mk (PyData.keyHash P "__firstlineno__") (.str "__firstlineno__" 200) (.int 2 199)), (.mk (PyData.keyHash P "__static_attributes__") (.str "__static_attributes__" 201) (.ref 22)), (.mk (PyData.keyHash P "__weakref__") (.str "__weakref__" 203) (.ref 25)), (.mk (PyData.keyHash P "__doc__") (.str "__doc__" 204) .none)] 3) #[])
def l10 : O := fun P => (.mk (.type "type") none (.cls (.mk "WoodError" [(.type "ValueError")] [(.ref 24), (.type "ValueError"), (.type "Exception"), (.type "BaseException"), (.type "object")] 23 "WoodError" .true [] [(.ref 37), (.ref 49), (.ref 61), (.ref 73), (.ref 85), (.ref 97)] .false none .false)) #[(some (.ref 15)), none, (some (.str "WoodError" 189)), (some (.str "WoodError" 197)), (some (.builtin "ValueError.__new__")), (some (.bool .true))])
def l11 : O := fun P => (.mk (.type "getset_descriptor") none (.fields #[(.str "__weakref__" 202), (.ref 24), (.builtin "ExceptionGroup.__weakref__"), .none]) #[])
def l12 : O := fun P => (.mk (.type "super") none (.fields #[(.ref 24), (.ref 24), (.ref 24)]) #[])
def l13 : O := fun P => (.mk (.type "builtin_function_or_method") none (.fields #[(.builtin "object.__init_subclass__"), (.ref 24)]) #[])
def d1 : List O := h0 207 4 28 "TooMany"
def d2 : List O := h0 223 6 40 "NoBit"
def d3 : List O := h0 239 8 52 "NoPlace"
def d4 : List O := h0 255 10 64 "NoNode"
def d5 : List O := h0 271 12 76 "NoTree"
def d6 : List O := h0 287 14 88 "NoOctets"
def d7 : List O := h1 11 309 19 1 100 303 "packed" "thinwood.blocks"
def d8 : List O := h2 315 12 22 1 105 320 303 ["bits", "bit"] "check_row" "thinwood.blocks"
def d9 : List O := h2 323 13 28 1 112 329 303 ["bits", "block", "bit"] "block_of" "thinwood.blocks"
def d10 : List O := h2 332 14 33 2 119 339 303 ["blocks", "many", "bits", "block"] "unpacked" "thinwood.blocks"
def d11 : List O := h2 342 15 40 2 126 347 303 ["block", "k"] "bit_in" "thinwood.blocks"
def d12 : List O := h1 16 350 42 2 133 303 "bits_of" "thinwood.blocks"
def d13 : List O := h2 356 17 44 2 138 361 303 ["block", "upto"] "ones_in" "thinwood.blocks"
def d14 : List O := h2 364 18 46 2 145 372 303 ["block", "nth", "ones", "k", "bit"] "one_in" "thinwood.blocks"
def d15 : List O := h2 375 19 53 2 152 383 303 ["block", "upto", "nets", "net", "bit"] "nets_of" "thinwood.blocks"
def d16 : List O := h2 386 20 60 2 159 391 303 ["block", "upto"] "low_in" "thinwood.blocks"
def d17 : List O := h2 394 21 62 4 166 403 303 ["block", "start", "stop", "goal", "k", "net"] "first_low_in" "thinwood.blocks"
def d18 : List O := h2 406 22 67 4 173 416 303 ["block", "start", "stop", "goal", "found", "k", "net"] "last_low_in" "thinwood.blocks"
def l14 : O := fun P => (.mk (.type "tuple") none (.seq #[(.str "blocks" 422), (.str "look" 423)] 0) #[])
def l15 : O := fun P => (.mk (.type "tuple") none (.seq #[(.str "kept" 424)] 0) #[])
def l16 : O := fun P => (.mk .none none (.func (FuncData.mk "look_of" "look_of" (L2.defArgs (Tw.top 23)) (FuncBody.stmts (L2.defBody (Tw.top 23))) (L2.defScope (Tw.top 23)) 0 [] .none .none .none .none none .none .none 0)) #[])
def l17 : O := fun P => (.mk (.type "code") none (.fields #[(.str "look_of" 419), (.str "look_of" 420), (.str "/claim/cut.py" 421), (.int 73 0), (.int 1 0), (.int 0 0), (.int 0 0), (.int 3 0), (.ref 180), (.bool .true), (.int 181 0), (.ref 181), .none, (.ref 182), (.ref 183), (.ref 184), (.int 425 0), (.int 73 0), (.str "/claim/cut.py" 426)]) #[])
def l18 : O := fun P => (.mk (.type "function") none (.func (FuncData.mk "look_of" "look_of" (L2.defArgs (Tw.top 23)) (FuncBody.stmts (L2.defBody (Tw.top 23))) (L2.defScope (Tw.top 23)) 3 [] .none .none .none (.str "thinwood.blocks" 303) none (.ref 185) .none 0)) #[])
def d20 : List O := h2 430 25 80 2 187 438 428 ["number", "many", "octets", "rest", "k"] "octets_of" "thinwood.octets"
def d21 : List O := h2 441 26 87 1 194 447 428 ["octets", "number", "octet"] "number_of" "thinwood.octets"
def d22 : List O := h2 452 28 93 1 201 457 450 ["bits", "blocks"] "kept_row" "thinwood.rows"
def d23 : List O := h2 460 29 96 1 208 466 450 ["blocks", "ahead", "block"] "ahead_of" "thinwood.rows"
def d24 : List O := h2 469 30 101 2 215 474 450 ["at", "most"] "check_place" "thinwood.rows"
def d25 : List O := h2 477 31 104 3 222 483 450 ["tables", "look", "at"] "bit_at" "thinwood.rows"
def d26 : List O := h2 486 32 107 3 229 496 450 ["tables", "look", "at", "many", "ahead", "number", "within"] "ones_at" "thinwood.rows"
def d27 : List O := h2 499 33 116 3 236 507 450 ["tables", "look", "nth", "ahead", "number"] "one_place" "thinwood.rows"
def d28 : List O := h2 510 34 121 2 243 515 450 ["nth", "many"] "check_nth" "thinwood.rows"
def d29 : List O := h2 518 35 124 2 250 526 450 ["numbers", "goal", "low", "high", "middle"] "last_no_greater" "thinwood.rows"
def d30 : List O := h2 533 38 136 1 257 540 529 ["numbers", "size", "nodes", "node"] "heap_of" "thinwood.heaps"
def d31 : List O := h2 543 39 144 1 264 548 529 ["many", "size"] "size_of" "thinwood.heaps"
def d32 : List O := h2 551 40 149 2 271 556 529 ["one", "other"] "lesser_of" "thinwood.heaps"
def d33 : List O := h1 41 559 155 4 278 529 "least_of" "thinwood.heaps"
def d34 : List O := h2 565 42 157 4 283 573 529 ["many", "look", "start", "goal", "node"] "first_at_most" "thinwood.heaps"
def d35 : List O := h2 576 43 162 4 290 584 529 ["many", "look", "stop", "goal", "node"] "last_at_most" "thinwood.heaps"
def d36 : List O := h2 587 44 167 5 297 596 529 ["size", "look", "node", "goal", "side", "found"] "place_beneath" "thinwood.heaps"
def d37 : List O := h2 599 45 174 3 304 605 529 ["many", "start", "stop"] "check_stretch" "thinwood.heaps"
def d38 : List O := h2 608 46 177 3 311 619 529 ["many", "start", "stop", "size", "low", "high", "lefts", "rights"] "cover" "thinwood.heaps"
def d39 : List O := h2 624 48 195 1 318 631 622 ["bits", "level", "at", "bit"] "is_tree" "thinwood.brackets"
def d40 : List O := h2 634 49 202 1 325 638 622 ["bits"] "check_brackets" "thinwood.brackets"
def d41 : List O := h1 50 641 206 1 332 622 "kept_brackets" "thinwood.brackets"
def d42 : List O := h2 647 51 213 3 337 653 622 ["tables", "number", "block"] "low_of" "thinwood.brackets"
def d43 : List O := h2 656 52 215 2 344 661 622 ["tables", "number"] "base_of" "thinwood.brackets"
def d44 : List O := h2 664 53 217 2 351 669 622 ["number", "at"] "start_within" "thinwood.brackets"
def d45 : List O := h2 672 54 219 2 358 677 622 ["number", "upto"] "end_within" "thinwood.brackets"
def d46 : List O := h2 680 55 221 1 365 684 622 ["tables"] "block_count" "thinwood.brackets"
def l19 : O := fun P => (.mk (.type "tuple") none (.seq #[(.str "tables" 690)] 0) #[])
def l20 : O := fun P => (.mk (.type "tuple") none (.seq #[(.str "nodes" 691)] 0) #[])
def l21 : O := fun P => (.mk .none none (.func (FuncData.mk "heap_look" "heap_look" (L2.defArgs (Tw.top 56)) (FuncBody.stmts (L2.defBody (Tw.top 56))) (L2.defScope (Tw.top 56)) 0 [] .none .none .none .none none .none .none 0)) #[])
def l22 : O := fun P => (.mk (.type "code") none (.fields #[(.str "heap_look" 687), (.str "heap_look" 688), (.str "/claim/cut.py" 689), (.int 223 0), (.int 1 0), (.int 0 0), (.int 0 0), (.int 3 0), (.ref 372), (.bool .true), (.int 181 0), (.ref 373), .none, (.ref 374), (.ref 375), (.ref 376), (.int 692 0), (.int 223 0), (.str "/claim/cut.py" 693)]) #[])
def l23 : O := fun P => (.mk (.type "function") none (.func (FuncData.mk "heap_look" "heap_look" (L2.defArgs (Tw.top 56)) (FuncBody.stmts (L2.defBody (Tw.top 56))) (L2.defScope (Tw.top 56)) 3 [] .none .none .none (.str "thinwood.brackets" 622) none (.ref 377) .none 0)) #[])
def d48 : List O := h2 695 57 226 3 379 701 622 ["tables", "look", "at"] "height" "thinwood.brackets"
def d49 : List O := h2 704 58 228 4 386 714 622 ["tables", "look", "at", "upto", "first", "last", "lows"] "lowest" "thinwood.brackets"
def d50 : List O := h2 717 59 239 5 393 726 622 ["tables", "look", "number", "at", "upto", "nets"] "lowest_within" "thinwood.brackets"
def d51 : List O := h2 729 60 242 4 400 739 622 ["tables", "look", "at", "goal", "number", "found", "further"] "low_behind" "thinwood.brackets"
def d52 : List O := h2 742 61 254 5 407 752 622 ["tables", "look", "number", "at", "goal", "start", "stop"] "first_within" "thinwood.brackets"
def d53 : List O := h2 755 62 258 2 414 760 622 ["number", "within"] "place_of_bit" "thinwood.brackets"
def d54 : List O := h2 763 63 262 4 421 771 622 ["tables", "look", "at", "goal", "found"] "low_ahead" "thinwood.brackets"
def d55 : List O := h2 774 64 268 4 428 784 622 ["tables", "look", "upto", "goal", "number", "found", "further"] "last_low_upto" "thinwood.brackets"
def d56 : List O := h2 787 65 279 5 435 796 622 ["tables", "look", "number", "upto", "goal", "stop"] "last_within" "thinwood.brackets"
def d57 : List O := h2 799 66 282 4 442 806 622 ["tables", "look", "at", "bit"] "check_bracket" "thinwood.brackets"
def d58 : List O := h2 809 67 285 3 449 815 622 ["tables", "look", "at"] "closing" "thinwood.brackets"
def d59 : List O := h2 818 68 288 3 456 824 622 ["tables", "look", "at"] "opening" "thinwood.brackets"
def d60 : List O := h2 827 69 291 4 463 834 622 ["tables", "look", "at", "pairs"] "further_out" "thinwood.brackets"
def d61 : List O := h2 841 72 298 1 470 847 837 ["depths", "ahead", "depth"] "check_depths" "thinwood.shapes"
def d62 : List O := h2 850 73 306 1 477 857 837 ["depths", "bits", "unclosed", "depth"] "brackets_of" "thinwood.shapes"
def d63 : List O := h2 860 74 315 1 484 867 837 ["bits", "depths", "unclosed", "bit"] "depths_of" "thinwood.shapes"
def d64 : List O := h2 870 75 324 1 491 874 837 ["depths"] "kept_tree" "thinwood.shapes"
def d65 : List O := h2 879 77 327 1 498 883 877 ["tables"] "node_count" "thinwood.trees"
def d66 : List O := h2 886 78 329 2 505 891 877 ["tables", "node"] "check_node" "thinwood.trees"
def d67 : List O := h2 894 79 332 3 512 900 877 ["tables", "look", "at"] "node_at" "thinwood.trees"
def d68 : List O := h2 903 80 336 3 519 909 877 ["tables", "look", "node"] "place_of" "thinwood.trees"
def d69 : List O := h2 912 81 339 3 526 918 877 ["tables", "look", "node"] "depth_of" "thinwood.trees"
def d70 : List O := h2 921 82 341 3 533 927 877 ["tables", "look", "node"] "elder_of" "thinwood.trees"
def d71 : List O := h2 930 83 343 3 540 937 877 ["tables", "look", "node", "behind"] "first_of" "thinwood.trees"
def d72 : List O := h2 940 84 348 3 547 947 877 ["tables", "look", "node", "behind"] "younger_of" "thinwood.trees"
def d73 : List O := h2 950 85 353 3 554 957 877 ["tables", "look", "node", "ahead"] "older_of" "thinwood.trees"
def d74 : List O := h2 960 86 358 3 561 967 877 ["tables", "look", "node", "at"] "beneath_of" "thinwood.trees"
def d75 : List O := h2 970 87 361 4 568 978 877 ["tables", "look", "node", "steps", "at"] "up_of" "thinwood.trees"
def d76 : List O := h2 981 88 366 4 575 989 877 ["tables", "look", "one", "other", "last"] "is_over" "thinwood.trees"
def d77 : List O := h2 992 89 370 4 582 1003 877 ["tables", "look", "one", "other", "node", "first", "last", "depth"] "common_of" "thinwood.trees"
def d78 : List O := h2 1014 94 380 2 589 1021 1006 ["numbers", "size", "octets", "number"] "numbers_octets" "thinwood.written"
def d79 : List O := h2 1024 95 385 2 596 1029 1006 ["blocks", "ahead"] "bits_octets" "thinwood.written"
def d80 : List O := h2 1032 96 387 1 603 1042 1006 ["depths", "kept", "tables", "blocks", "first", "lows", "count"] "tree_octets" "thinwood.written"
def d81 : List O := h2 1045 97 395 1 610 1049 1006 ["octets"] "read_tree" "thinwood.written"
def d82 : List O := h2 1052 98 397 1 617 1057 1006 ["octets", "kept"] "opened_tree" "thinwood.written"
def d83 : List O := h2 1060 99 400 3 624 1068 1006 ["octets", "tell", "write", "told", "again"] "read_as" "thinwood.written"
def d84 : List O := h2 1071 100 410 1 631 1076 1006 ["octets", "octet"] "check_octets" "thinwood.written"
def d85 : List O := h2 1079 101 414 3 638 1085 1006 ["octets", "at", "size"] "number_at" "thinwood.written"
def d86 : List O := h1 102 1088 418 4 645 1006 "numbers_at" "thinwood.written"
def d87 : List O := h2 1094 103 420 1 650 1098 1006 ["many"] "block_total" "thinwood.written"
def d88 : List O := h2 1101 104 422 3 657 1107 1006 ["octets", "at", "many"] "bits_at" "thinwood.written"
def d89 : List O := h2 1110 105 424 1 664 1114 1006 ["octets"] "told_bits" "thinwood.written"
def d90 : List O := h2 1117 106 426 1 671 1121 1006 ["octets"] "told_depths" "thinwood.written"
def d91 : List O := h2 1126 108 429 1 678 1130 1124 ["_law_found"] "_law_whole" "law_thinwood_k90_whole_tree_opened"
def d92 : List O := h2 1133 109 431 2 685 1144 1124 ["_law_script", "_law_most", "_law_depths_here", "_law_cell", "_law_number", "_law_deep", "_law_many", "_law_k"] "_law_depths" "law_thinwood_k90_whole_tree_opened"
def d93 : List O := h2 1147 110 446 1 692 1157 1124 ["_law_depths_here", "_law_elders", "_law_olders", "_law_ends", "_law_path", "_law_node", "_law_gone"] "_law_family" "law_thinwood_k90_whole_tree_opened"
def d94 : List O := h2 1160 111 462 3 699 1166 1124 ["_law_elders", "_law_node", "_law_steps"] "_law_up" "law_thinwood_k90_whole_tree_opened"
def d95 : List O := h2 1169 112 467 3 706 1175 1124 ["_law_elders", "_law_one", "_law_other"] "_law_both" "law_thinwood_k90_whole_tree_opened"
def d96 : List O := h2 1178 113 474 3 713 1191 1124 ["_law_depths_here", "_law_family_here", "_law_ask", "_law_way", "_law_one", "_law_other", "_law_steps", "_law_elders", "_law_olders", "_law_ends"] "_law_due" "law_thinwood_k90_whole_tree_opened"
def d97 : List O := h2 1194 114 496 3 720 1204 1124 ["_law_tables", "_law_look", "_law_ask", "_law_way", "_law_one", "_law_other", "_law_steps"] "_law_told_by" "law_thinwood_k90_whole_tree_opened"
def l24 : O := fun P => (.mk (.type "tuple") none (.seq #[(.str "_law_look" 1210), (.str "_law_size" 1211), (.str "_law_seen" 1212), (.str "_law_told" 1213)] 0) #[])
def l25 : O := fun P => (.mk (.type "tuple") none (.seq #[(.str "_law_look" 1214), (.str "_law_size" 1215), (.str "_law_seen" 1216)] 0) #[])
def l26 : O := fun P => (.mk .none none (.func (FuncData.mk "_law_watched" "_law_watched" (L2.defArgs (Tw.top 115)) (FuncBody.stmts (L2.defBody (Tw.top 115))) (L2.defScope (Tw.top 115)) 0 [] .none .none .none .none none .none .none 0)) #[])
def l27 : O := fun P => (.mk (.type "code") none (.fields #[(.str "_law_watched" 1207), (.str "_law_watched" 1208), (.str "/claim/cut.py" 1209), (.int 517 0), (.int 3 0), (.int 0 0), (.int 0 0), (.int 3 0), (.ref 727), (.bool .true), (.int 181 0), (.ref 728), .none, (.ref 729), (.ref 730), (.ref 731), (.int 1217 0), (.int 517 0), (.str "/claim/cut.py" 1218)]) #[])
def l28 : O := fun P => (.mk (.type "function") none (.func (FuncData.mk "_law_watched" "_law_watched" (L2.defArgs (Tw.top 115)) (FuncBody.stmts (L2.defBody (Tw.top 115))) (L2.defScope (Tw.top 115)) 3 [] .none .none .none (.str "law_thinwood_k90_whole_tree_opened" 1124) none (.ref 732) .none 0)) #[])
def d99 : List O := h2 1220 116 525 3 734 1227 1124 ["_law_seen", "_law_size", "_law_most", "_law_number"] "_law_few" "law_thinwood_k90_whole_tree_opened"
def d100 : List O := h2 1230 117 530 3 741 1236 1124 ["_law_found", "_law_due_here", "_law_way"] "_law_right" "law_thinwood_k90_whole_tree_opened"
def d101 : List O := h2 1239 118 536 1 748 1257 1124 ["_law_script", "_law_depths_here", "_law_octets", "_law_tables", "_law_look", "_law_size", "_law_family_here", "_law_asks", "_law_cell", "_law_number", "_law_one", "_law_other", "_law_ask", "_law_seen", "_law_found"] "law" "law_thinwood_k90_whole_tree_opened"
def f0 : List O := ap [PySem.W.boot_o_0, PySem.W.boot_o_1, PySem.W.boot_o_2, s0, PySem.W.boot_o_4, PySem.W.boot_o_5, PySem.W.boot_o_6, PySem.W.boot_o_7, PySem.W.boot_o_8, PySem.W.boot_o_9, PySem.W.boot_o_10, l0, s1, l1, l2, l3, l4, l5, l0, l6, l7, l8, l0, l9, l10, l11, l12, l13] (ap d1 (ap d2 (ap d3 (ap d4 (ap d5 (ap d6 (ap d7 (ap d8 (d9)))))))))
def f1 : List O := ap d10 (ap d11 (ap d12 (ap d13 (ap d14 (ap d15 (ap d16 (ap d17 (ap d18 ([l0, l6, l14, l15, l16, l17, l18])))))))))
def f2 : List O := ap d20 (ap d21 (ap d22 (ap d23 (ap d24 (ap d25 (ap d26 (ap d27 (ap d28 (d29)))))))))
def f3 : List O := ap d30 (ap d31 (ap d32 (ap d33 (ap d34 (ap d35 (ap d36 (ap d37 (ap d38 (d39)))))))))
def f4 : List O := ap d40 (ap d41 (ap d42 (ap d43 (ap d44 (ap d45 (ap d46 (ap [l0, l6, l19, l20, l21, l22, l23] (ap d48 (d49)))))))))
def f5 : List O := ap d50 (ap d51 (ap d52 (ap d53 (ap d54 (ap d55 (ap d56 (ap d57 (ap d58 (d59)))))))))
def f6 : List O := ap d60 (ap d61 (ap d62 (ap d63 (ap d64 (ap d65 (ap d66 (ap d67 (ap d68 (d69)))))))))
def f7 : List O := ap d70 (ap d71 (ap d72 (ap d73 (ap d74 (ap d75 (ap d76 (ap d77 (ap d78 (d79)))))))))
def f8 : List O := ap d80 (ap d81 (ap d82 (ap d83 (ap d84 (ap d85 (ap d86 (ap d87 (ap d88 (d89)))))))))
def f9 : List O := ap d90 (ap d91 (ap d92 (ap d93 (ap d94 (ap d95 (ap d96 (ap d97 (ap [l0, l6, l24, l25, l26, l27, l28] (d99)))))))))
def f10 : List O := ap d100 (d101)
def ff : List O := ap f0 (ap f1 (ap f2 (ap f3 (ap f4 (ap f5 (ap f6 (ap f7 (ap f8 (ap f9 (f10))))))))))
def s2 : O := gd (Z "__name__" 165 (.str "thinwood.errors" 187) :: tk gg 9) 10
def l29 : O := fun P => (.mk .none none (.fields #[(.int 2 0), (.int 0 0), (.ref 20)]) #[])
def l30 : O := fun P => (.mk (.type "type") none (.cls (.mk "WoodError" [(.type "ValueError")] [(.ref 24), (.type "ValueError"), (.type "Exception"), (.type "BaseException"), (.type "object")] 23 "WoodError" .true [] [] .false none .false)) #[(some (.ref 15)), none, (some (.str "WoodError" 189)), (some (.str "WoodError" 197)), (some (.builtin "ValueError.__new__")), (some (.bool .true))])
def S_tree_63 : Params → PySem.W.BT := fun P => bt 6 (mp (fun x => x P) (ov (tk ff 28) [(3, s2), (8, l29), (11, l30)]))
def s3 : O := gd (Z "__name__" 165 (.str "thinwood.errors" 187) :: tk gg 10) 11
def s4 : O := tb (tk tt 2)
def l31 : O := fun P => (.mk (.type "type") none (.cls (.mk "WoodError" [(.type "ValueError")] [(.ref 24), (.type "ValueError"), (.type "Exception"), (.type "BaseException"), (.type "object")] 23 "WoodError" .true [] [(.ref 37)] .false none .false)) #[(some (.ref 15)), none, (some (.str "WoodError" 189)), (some (.str "WoodError" 197)), (some (.builtin "ValueError.__new__")), (some (.bool .true))])
def S_tree_78 : Params → PySem.W.BT := fun P => bt 7 (mp (fun x => x P) (ov (tk ff 40) [(3, s3), (8, s4), (11, l31)]))
def s5 : O := gd (Z "__name__" 165 (.str "thinwood.errors" 187) :: tk gg 11) 12
def s6 : O := tb (tk tt 3)
def l32 : O := fun P => (.mk (.type "type") none (.cls (.mk "WoodError" [(.type "ValueError")] [(.ref 24), (.type "ValueError"), (.type "Exception"), (.type "BaseException"), (.type "object")] 23 "WoodError" .true [] [(.ref 37), (.ref 49)] .false none .false)) #[(some (.ref 15)), none, (some (.str "WoodError" 189)), (some (.str "WoodError" 197)), (some (.builtin "ValueError.__new__")), (some (.bool .true))])
def S_tree_93 : Params → PySem.W.BT := fun P => bt 7 (mp (fun x => x P) (ov (tk ff 52) [(3, s5), (8, s6), (11, l32)]))
def s7 : O := gd (Z "__name__" 165 (.str "thinwood.errors" 187) :: tk gg 12) 13
def s8 : O := tb (tk tt 4)
def l33 : O := fun P => (.mk (.type "type") none (.cls (.mk "WoodError" [(.type "ValueError")] [(.ref 24), (.type "ValueError"), (.type "Exception"), (.type "BaseException"), (.type "object")] 23 "WoodError" .true [] [(.ref 37), (.ref 49), (.ref 61)] .false none .false)) #[(some (.ref 15)), none, (some (.str "WoodError" 189)), (some (.str "WoodError" 197)), (some (.builtin "ValueError.__new__")), (some (.bool .true))])
def S_tree_108 : Params → PySem.W.BT := fun P => bt 8 (mp (fun x => x P) (ov (tk ff 64) [(3, s7), (8, s8), (11, l33)]))
def s9 : O := gd (Z "__name__" 165 (.str "thinwood.errors" 187) :: tk gg 13) 14
def s10 : O := tb (tk tt 5)
def l34 : O := fun P => (.mk (.type "type") none (.cls (.mk "WoodError" [(.type "ValueError")] [(.ref 24), (.type "ValueError"), (.type "Exception"), (.type "BaseException"), (.type "object")] 23 "WoodError" .true [] [(.ref 37), (.ref 49), (.ref 61), (.ref 73)] .false none .false)) #[(some (.ref 15)), none, (some (.str "WoodError" 189)), (some (.str "WoodError" 197)), (some (.builtin "ValueError.__new__")), (some (.bool .true))])
def S_tree_123 : Params → PySem.W.BT := fun P => bt 8 (mp (fun x => x P) (ov (tk ff 76) [(3, s9), (8, s10), (11, l34)]))
def s11 : O := gd (Z "__name__" 165 (.str "thinwood.errors" 187) :: tk gg 14) 15
def s12 : O := tb (tk tt 6)
def l35 : O := fun P => (.mk (.type "type") none (.cls (.mk "WoodError" [(.type "ValueError")] [(.ref 24), (.type "ValueError"), (.type "Exception"), (.type "BaseException"), (.type "object")] 23 "WoodError" .true [] [(.ref 37), (.ref 49), (.ref 61), (.ref 73), (.ref 85)] .false none .false)) #[(some (.ref 15)), none, (some (.str "WoodError" 189)), (some (.str "WoodError" 197)), (some (.builtin "ValueError.__new__")), (some (.bool .true))])
def S_tree_138 : Params → PySem.W.BT := fun P => bt 8 (mp (fun x => x P) (ov (tk ff 88) [(3, s11), (8, s12), (11, l35)]))
def s13 : O := gd (Z "__name__" 165 (.str "thinwood.blocks" 303) :: tk gg 22) 23
def s14 : O := tb (tk tt 12)
def S_tree_186 : Params → PySem.W.BT := fun P => bt 9 (mp (fun x => x P) (ov (tk ff 133) [(3, s13), (8, s14)]))
def s15 : O := gd (Z "__name__" 165 (.str "thinwood.rows" 450) :: tk gg 34) 35
def s16 : O := tb (tk tt 24)
def S_tree_270 : Params → PySem.W.BT := fun P => bt 9 (mp (fun x => x P) (ov (tk ff 215) [(3, s15), (8, s16)]))
def s17 : O := gd (Z "__name__" 165 (.str "thinwood.heaps" 529) :: tk gg 47) 48
def s18 : O := tb (tk tt 36)
def S_tree_354 : Params → PySem.W.BT := fun P => bt 10 (mp (fun x => x P) (ov (tk ff 297) [(3, s17), (8, s18)]))
def s19 : O := gd (Z "__name__" 165 (.str "thinwood.brackets" 622) :: tk gg 59) 60
def s20 : O := tb (tk tt 48)
def S_tree_438 : Params → PySem.W.BT := fun P => bt 10 (mp (fun x => x P) (ov (tk ff 379) [(3, s19), (8, s20)]))
def s21 : O := gd (Z "__name__" 165 (.str "thinwood.brackets" 622) :: tk gg 71) 72
def s22 : O := tb (tk tt 60)
def S_tree_524 : Params → PySem.W.BT := fun P => bt 10 (mp (fun x => x P) (ov (tk ff 463) [(3, s21), (8, s22)]))
def s23 : O := gd (Z "__name__" 165 (.str "thinwood.trees" 877) :: tk gg 84) 85
def s24 : O := tb (tk tt 72)
def S_tree_610 : Params → PySem.W.BT := fun P => bt 11 (mp (fun x => x P) (ov (tk ff 547) [(3, s23), (8, s24)]))
def s25 : O := gd (Z "__name__" 165 (.str "thinwood.written" 1006) :: tk gg 98) 99
def s26 : O := tb (tk tt 83)
def S_tree_689 : Params → PySem.W.BT := fun P => bt 11 (mp (fun x => x P) (ov (tk ff 624) [(3, s25), (8, s26)]))
def s27 : O := gd (Z "__name__" 165 (.str "law_thinwood_k90_whole_tree_opened" 1124) :: tk gg 110) 111
def s28 : O := tb (tk tt 95)
def S_tree_773 : Params → PySem.W.BT := fun P => bt 11 (mp (fun x => x P) (ov (tk ff 706) [(3, s27), (8, s28)]))
def S_tree_824 : Params → PySem.W.BT := fun P => bt 11 (mp (fun x => x P) (ff))
def S_heap_825 : Params → Heap := fun P => Heap.mk (Array.mk (mp (fun x => x P) (ff))) (.mk [] [] [] 0 [] [] .false #[] [] 0 .false .false .false 0 [2000, 10, 10] .false 0 .true [] [] 0 .false)
def S_sts_49 : List Stmt := tk (List.drop 0 PySem.Challenge.pw_thinwood_k90_whole_tree_opened.main.body) 2
def S_sts_64 : List Stmt := tk (List.drop 2 PySem.Challenge.pw_thinwood_k90_whole_tree_opened.main.body) 1
def S_sts_79 : List Stmt := tk (List.drop 3 PySem.Challenge.pw_thinwood_k90_whole_tree_opened.main.body) 1
def S_sts_94 : List Stmt := tk (List.drop 4 PySem.Challenge.pw_thinwood_k90_whole_tree_opened.main.body) 1
def S_sts_109 : List Stmt := tk (List.drop 5 PySem.Challenge.pw_thinwood_k90_whole_tree_opened.main.body) 1
def S_sts_124 : List Stmt := tk (List.drop 6 PySem.Challenge.pw_thinwood_k90_whole_tree_opened.main.body) 1
def S_sts_139 : List Stmt := tk (List.drop 7 PySem.Challenge.pw_thinwood_k90_whole_tree_opened.main.body) 9
def S_sts_187 : List Stmt := tk (List.drop 16 PySem.Challenge.pw_thinwood_k90_whole_tree_opened.main.body) 14
def S_sts_271 : List Stmt := tk (List.drop 30 PySem.Challenge.pw_thinwood_k90_whole_tree_opened.main.body) 14
def S_sts_355 : List Stmt := tk (List.drop 44 PySem.Challenge.pw_thinwood_k90_whole_tree_opened.main.body) 13
def S_sts_439 : List Stmt := tk (List.drop 57 PySem.Challenge.pw_thinwood_k90_whole_tree_opened.main.body) 12
def S_sts_525 : List Stmt := tk (List.drop 69 PySem.Challenge.pw_thinwood_k90_whole_tree_opened.main.body) 15
def S_sts_611 : List Stmt := tk (List.drop 84 PySem.Challenge.pw_thinwood_k90_whole_tree_opened.main.body) 15
def S_sts_690 : List Stmt := tk (List.drop 99 PySem.Challenge.pw_thinwood_k90_whole_tree_opened.main.body) 13
def S_sts_774 : List Stmt := tk (List.drop 112 PySem.Challenge.pw_thinwood_k90_whole_tree_opened.main.body) 7
def S_view : Program := { PySem.Challenge.pw_thinwood_k90_whole_tree_opened with main := { PySem.Challenge.pw_thinwood_k90_whole_tree_opened.main with body := mp Tw.top [1, 2, 3, 4, 5, 6, 7, 9, 10, 11, 12, 13, 14, 15, 16, 17, 18, 19, 20, 21, 22, 23, 25, 26, 28, 29, 30, 31, 32, 33, 34, 35, 37, 38, 39, 40, 41, 42, 43, 44, 45, 46, 48, 49, 50, 51, 52, 53, 54, 55, 56, 57, 58, 59, 60, 61, 62, 63, 64, 65, 66, 67, 68, 69, 71, 72, 73, 74, 75, 77, 78, 79, 80, 81, 82, 83, 84, 85, 86, 87, 88, 89, 91, 92, 93, 94, 95, 96, 97, 98, 99, 100, 101, 102, 103, 104, 105, 106, 108, 109, 110, 111, 112, 113, 114, 115, 116, 117, 118] } }
end
end Tp
theorem PySem.W.Fast.tw14598715356260435866 : True := trivial
noncomputable abbrev PySem.W.Fast.tw13860364275668440730 : PySem.Program := PySem.Challenge.pw_thinwood_k90_whole_tree_opened
theorem PySem.W.Fast.te13860364275668440730 : PySem.Challenge.pw_thinwood_k90_whole_tree_opened = PySem.W.Fast.tw13860364275668440730 := rfl
lay_quick Tp.g0 Tp.g1 Tp.g2 Tp.g3 Tp.g4 Tp.g5 Tp.g6 Tp.g7 Tp.g8 Tp.g9 Tp.g10 Tp.g11 Tp.gg Tp.s0 Tp.l0 Tp.s1 Tp.l1 Tp.l2 Tp.l3 Tp.l4 Tp.l5 Tp.l6 Tp.l7 Tp.l8 Tp.l9 Tp.l10 Tp.l11 Tp.l12 Tp.l13 Tp.d1 Tp.d2 Tp.d3 Tp.d4 Tp.d5 Tp.d6 Tp.d7 Tp.d8 Tp.d9 Tp.d10 Tp.d11
lay_quick Tp.d12 Tp.d13 Tp.d14 Tp.d15 Tp.d16 Tp.d17 Tp.d18 Tp.l14 Tp.l15 Tp.l16 Tp.l17 Tp.l18 Tp.d20 Tp.d21 Tp.d22 Tp.d23 Tp.d24 Tp.d25 Tp.d26 Tp.d27 Tp.d28 Tp.d29 Tp.d30 Tp.d31 Tp.d32 Tp.d33 Tp.d34 Tp.d35 Tp.d36 Tp.d37 Tp.d38 Tp.d39 Tp.d40 Tp.d41 Tp.d42 Tp.d43 Tp.d44 Tp.d45 Tp.d46 Tp.l19
lay_quick Tp.l20 Tp.l21 Tp.l22 Tp.l23 Tp.d48 Tp.d49 Tp.d50 Tp.d51 Tp.d52 Tp.d53 Tp.d54 Tp.d55 Tp.d56 Tp.d57 Tp.d58 Tp.d59 Tp.d60 Tp.d61 Tp.d62 Tp.d63 Tp.d64 Tp.d65 Tp.d66 Tp.d67 Tp.d68 Tp.d69 Tp.d70 Tp.d71 Tp.d72 Tp.d73 Tp.d74 Tp.d75 Tp.d76 Tp.d77 Tp.d78 Tp.d79 Tp.d80 Tp.d81 Tp.d82 Tp.d83
lay_quick Tp.d84 Tp.d85 Tp.d86 Tp.d87 Tp.d88 Tp.d89 Tp.d90 Tp.d91 Tp.d92 Tp.d93 Tp.d94 Tp.d95 Tp.d96 Tp.d97 Tp.l24 Tp.l25 Tp.l26 Tp.l27 Tp.l28 Tp.d99 Tp.d100 Tp.d101 Tp.f0 Tp.f1 Tp.f2 Tp.f3 Tp.f4 Tp.f5 Tp.f6 Tp.f7 Tp.f8 Tp.f9 Tp.f10 Tp.ff Tp.s2 Tp.l29 Tp.l30 Tp.S_tree_63 Tp.s3 Tp.s4
lay_quick Tp.l31 Tp.S_tree_78 Tp.s5 Tp.s6 Tp.l32 Tp.S_tree_93 Tp.s7 Tp.s8 Tp.l33 Tp.S_tree_108 Tp.s9 Tp.s10 Tp.l34 Tp.S_tree_123 Tp.s11 Tp.s12 Tp.l35 Tp.S_tree_138 Tp.s13 Tp.s14 Tp.S_tree_186 Tp.s15 Tp.s16 Tp.S_tree_270 Tp.s17 Tp.s18 Tp.S_tree_354 Tp.s19 Tp.s20 Tp.S_tree_438 Tp.s21 Tp.s22 Tp.S_tree_524 Tp.s23 Tp.s24 Tp.S_tree_610 Tp.s25 Tp.s26 Tp.S_tree_689 Tp.s27
lay_quick Tp.s28 Tp.S_tree_773 Tp.S_tree_824 Tp.S_heap_825 Tp.S_sts_49 Tp.S_sts_64 Tp.S_sts_79 Tp.S_sts_94 Tp.S_sts_109 Tp.S_sts_124 Tp.S_sts_139 Tp.S_sts_187 Tp.S_sts_271 Tp.S_sts_355 Tp.S_sts_439 Tp.S_sts_525 Tp.S_sts_611 Tp.S_sts_690 Tp.S_sts_774 Tp.S_view
namespace Tp
open PySem PySem.W.Fast
noncomputable abbrev _root_.PySem.W.Fast.tw6162117463736760103 : Params → PySem.W.BT := tw11432227658251013801
theorem _root_.PySem.W.Fast.te6162117463736760103 : S_tree_63 = _root_.PySem.W.Fast.tw6162117463736760103 := te11432227658251013801
noncomputable abbrev _root_.PySem.W.Fast.tw6090854066931775953 : Params → PySem.W.BT := tw16269510630359031336
theorem _root_.PySem.W.Fast.te6090854066931775953 : S_tree_78 = _root_.PySem.W.Fast.tw6090854066931775953 := te16269510630359031336
noncomputable abbrev _root_.PySem.W.Fast.tw14264560655882876971 : Params → PySem.W.BT := tw5549918322004914887
theorem _root_.PySem.W.Fast.te14264560655882876971 : S_tree_93 = _root_.PySem.W.Fast.tw14264560655882876971 := te5549918322004914887
noncomputable abbrev _root_.PySem.W.Fast.tw1855921451085596624 : Params → PySem.W.BT := tw10118726668083288838
theorem _root_.PySem.W.Fast.te1855921451085596624 : S_tree_108 = _root_.PySem.W.Fast.tw1855921451085596624 := te10118726668083288838
noncomputable abbrev _root_.PySem.W.Fast.tw3927205728322895300 : Params → PySem.W.BT := tw244363406318419850
theorem _root_.PySem.W.Fast.te3927205728322895300 : S_tree_123 = _root_.PySem.W.Fast.tw3927205728322895300 := te244363406318419850
noncomputable abbrev _root_.PySem.W.Fast.tw17773868692835945558 : Params → PySem.W.BT := tw12417361858070979987
theorem _root_.PySem.W.Fast.te17773868692835945558 : S_tree_138 = _root_.PySem.W.Fast.tw17773868692835945558 := te12417361858070979987
noncomputable abbrev _root_.PySem.W.Fast.tw6412237624933295343 : Params → PySem.W.BT := tw12981992686525050642
theorem _root_.PySem.W.Fast.te6412237624933295343 : S_tree_186 = _root_.PySem.W.Fast.tw6412237624933295343 := te12981992686525050642
noncomputable abbrev _root_.PySem.W.Fast.tw5501470069915169089 : Params → PySem.W.BT := tw16272039245694526286
theorem _root_.PySem.W.Fast.te5501470069915169089 : S_tree_270 = _root_.PySem.W.Fast.tw5501470069915169089 := te16272039245694526286
noncomputable abbrev _root_.PySem.W.Fast.tw7564215074296839431 : Params → PySem.W.BT := tw13405121048553186738
theorem _root_.PySem.W.Fast.te7564215074296839431 : S_tree_354 = _root_.PySem.W.Fast.tw7564215074296839431 := te13405121048553186738
noncomputable abbrev _root_.PySem.W.Fast.tw11513810416632836900 : Params → PySem.W.BT := tw14419400997176389180
theorem _root_.PySem.W.Fast.te11513810416632836900 : S_tree_438 = _root_.PySem.W.Fast.tw11513810416632836900 := te14419400997176389180
noncomputable abbrev _root_.PySem.W.Fast.tw15924879556340420816 : Params → PySem.W.BT := tw16486203022798069342
theorem _root_.PySem.W.Fast.te15924879556340420816 : S_tree_524 = _root_.PySem.W.Fast.tw15924879556340420816 := te16486203022798069342
noncomputable abbrev _root_.PySem.W.Fast.tw5286974874228257442 : Params → PySem.W.BT := tw2761054708610596715
theorem _root_.PySem.W.Fast.te5286974874228257442 : S_tree_610 = _root_.PySem.W.Fast.tw5286974874228257442 := te2761054708610596715
noncomputable abbrev _root_.PySem.W.Fast.tw14433550208820373640 : Params → PySem.W.BT := tw863187581518211399
theorem _root_.PySem.W.Fast.te14433550208820373640 : S_tree_689 = _root_.PySem.W.Fast.tw14433550208820373640 := te863187581518211399
noncomputable abbrev _root_.PySem.W.Fast.tw12769229420521173087 : Params → PySem.W.BT := tw2246888714994860936
theorem _root_.PySem.W.Fast.te12769229420521173087 : S_tree_773 = _root_.PySem.W.Fast.tw12769229420521173087 := te2246888714994860936
noncomputable abbrev _root_.PySem.W.Fast.tw1107243674723211396 : Params → PySem.W.BT := tw17711126564077091083
theorem _root_.PySem.W.Fast.te1107243674723211396 : S_tree_824 = _root_.PySem.W.Fast.tw1107243674723211396 := te17711126564077091083
noncomputable abbrev _root_.PySem.W.Fast.tw16386806515503186727 : Params → Heap := tw9373059927238244775
theorem _root_.PySem.W.Fast.te16386806515503186727 : S_heap_825 = _root_.PySem.W.Fast.tw16386806515503186727 := te9373059927238244775
noncomputable abbrev _root_.PySem.W.Fast.tw2108682036318847889 : List Stmt := tw666750322614274432
theorem _root_.PySem.W.Fast.te2108682036318847889 : S_sts_49 = _root_.PySem.W.Fast.tw2108682036318847889 := te666750322614274432
noncomputable abbrev _root_.PySem.W.Fast.tw17685462951889375064 : List Stmt := tw5768192320520425421
theorem _root_.PySem.W.Fast.te17685462951889375064 : S_sts_64 = _root_.PySem.W.Fast.tw17685462951889375064 := te5768192320520425421
noncomputable abbrev _root_.PySem.W.Fast.tw16479740463847088339 : List Stmt := tw16161987442105222805
theorem _root_.PySem.W.Fast.te16479740463847088339 : S_sts_79 = _root_.PySem.W.Fast.tw16479740463847088339 := te16161987442105222805
noncomputable abbrev _root_.PySem.W.Fast.tw12550164635797466617 : List Stmt := tw11682420065776883047
theorem _root_.PySem.W.Fast.te12550164635797466617 : S_sts_94 = _root_.PySem.W.Fast.tw12550164635797466617 := te11682420065776883047
noncomputable abbrev _root_.PySem.W.Fast.tw5462436856458661413 : List Stmt := tw5728941507444464575
theorem _root_.PySem.W.Fast.te5462436856458661413 : S_sts_109 = _root_.PySem.W.Fast.tw5462436856458661413 := te5728941507444464575
noncomputable abbrev _root_.PySem.W.Fast.tw8875799855869925074 : List Stmt := tw3506674074365841151
theorem _root_.PySem.W.Fast.te8875799855869925074 : S_sts_124 = _root_.PySem.W.Fast.tw8875799855869925074 := te3506674074365841151
noncomputable abbrev _root_.PySem.W.Fast.tw2472562890119775723 : List Stmt := tw11501099722331979331
theorem _root_.PySem.W.Fast.te2472562890119775723 : S_sts_139 = _root_.PySem.W.Fast.tw2472562890119775723 := te11501099722331979331
noncomputable abbrev _root_.PySem.W.Fast.tw17934612214412963159 : List Stmt := tw10526252734070488217
theorem _root_.PySem.W.Fast.te17934612214412963159 : S_sts_187 = _root_.PySem.W.Fast.tw17934612214412963159 := te10526252734070488217
noncomputable abbrev _root_.PySem.W.Fast.tw11091332075099525116 : List Stmt := tw11267936170530293816
theorem _root_.PySem.W.Fast.te11091332075099525116 : S_sts_271 = _root_.PySem.W.Fast.tw11091332075099525116 := te11267936170530293816
noncomputable abbrev _root_.PySem.W.Fast.tw12762203225428869034 : List Stmt := tw3551186782384807134
theorem _root_.PySem.W.Fast.te12762203225428869034 : S_sts_355 = _root_.PySem.W.Fast.tw12762203225428869034 := te3551186782384807134
noncomputable abbrev _root_.PySem.W.Fast.tw5346935723378149458 : List Stmt := tw10766232165626671702
theorem _root_.PySem.W.Fast.te5346935723378149458 : S_sts_439 = _root_.PySem.W.Fast.tw5346935723378149458 := te10766232165626671702
noncomputable abbrev _root_.PySem.W.Fast.tw6730427832533212415 : List Stmt := tw6495858893443541075
theorem _root_.PySem.W.Fast.te6730427832533212415 : S_sts_525 = _root_.PySem.W.Fast.tw6730427832533212415 := te6495858893443541075
noncomputable abbrev _root_.PySem.W.Fast.tw10882841043584674198 : List Stmt := tw7550201385060234137
theorem _root_.PySem.W.Fast.te10882841043584674198 : S_sts_611 = _root_.PySem.W.Fast.tw10882841043584674198 := te7550201385060234137
noncomputable abbrev _root_.PySem.W.Fast.tw1053904413714078049 : List Stmt := tw15007050415319489255
theorem _root_.PySem.W.Fast.te1053904413714078049 : S_sts_690 = _root_.PySem.W.Fast.tw1053904413714078049 := te15007050415319489255
noncomputable abbrev _root_.PySem.W.Fast.tw13242259343457114938 : List Stmt := tw6804284582384634918
theorem _root_.PySem.W.Fast.te13242259343457114938 : S_sts_774 = _root_.PySem.W.Fast.tw13242259343457114938 := te6804284582384634918
noncomputable abbrev _root_.PySem.W.Fast.tw7385893894365574957 : Program := tw11325136443342628617
theorem _root_.PySem.W.Fast.te7385893894365574957 : S_view = _root_.PySem.W.Fast.tw7385893894365574957 := te11325136443342628617
theorem _root_.PySem.W.Fast.te11001790490676431528 : True := trivial
end Tp
open PySem PySem.W PyProof.Rows
set_option maxRecDepth 100000 in
set_option maxHeartbeats 0 in
theorem PySem.Challenge.cw_thinwood_k90_whole_tree_opened_holds : PySem.Challenge.rw_thinwood_k90_whole_tree_opened.Holds := by
 w_on; o_law; k_head; (case hw=>w_witness2)
 k_fill
 refine L2.FP (l:=PySem.Challenge.rw_thinwood_k90_whole_tree_opened) (n:=63) (k:=13) (x := "_law_script") rfl (by decide) rfl ⟨rfl,by decide,by decide⟩ (fun w h Y=>PySem.W.km_in_of Y) ?F
 case F =>
  intro w mg mb mean fa h KX TT hmg
  refine' Tw.Il KX TT hmg ?d0 ?d1 ?d2 ?d3 ?d4 ?d5 ?d6 ?d7 ?d8 ?d9 ?d10 ?d11 ?a12 ?l12 ?c12 ?k12 ?tl_look_of ?tp_look_of ?tr_look_of ?d13 ?d14 ?d15 ?d16 ?d17 ?d18 ?d19 ?d20 ?d21 ?d22 ?d23 ?d24 ?d25 ?d26 ?d27 ?d28 ?d29 ?d30 ?d31 ?d32 ?d33 ?d34 ?d35 ?d36 ?d37 ?d38 ?d39 ?a40 ?l40 ?c40 ?k40 ?tl_heap_look ?tp_heap_look ?tr_heap_look ?d41 ?d42 ?d43 ?d44 ?d45 ?d46 ?d47 ?d48 ?d49 ?d50 ?d51 ?d52 ?d53 ?d54 ?d55 ?d56 ?d57 ?d58 ?d59 ?d60 ?d61 ?d62 ?d63 ?d64 ?d65 ?d66 ?d67 ?d68 ?d69 ?d70 ?d71 ?d72 ?d73 ?d74 ?d75 ?d76 ?d77 ?d78 ?d79 ?d80 ?d81 ?d82 ?d83 ?d84 ?d85 ?d86 ?d87 ?d88 ?d89 ?d90 ?a91 ?l91 ?c91 ?k91 ?tl_law_watched ?tp_law_watched ?tr_law_watched ?d92 ?d93 ?d94 ?z_bool ?z_enumerate ?z_int ?z_isinstance ?z_len ?z_list ?z_max ?z_min ?z_range ?z_reversed ?z_set ?z_sum ?z_tuple ?z_zip ?g_BLOCK_BITS ?g_BLOCK_OCTETS ?g_COUNT_OCTETS ?g_MOST_BITS ?g_MOST_NODES ?g_MOST_NUMBERS ?g_TREE ?q_NoNode ?q_WoodError ?ex_NoNode ?ed_NoNode ?ega_NoNode ?eng_NoNode ?ecl_NoNode ?egt_NoNode ?etk_NoNode ?emo_NoNode ?emb_NoNode ?i_NoNode_NoNode ?i_NoNode_WoodError ?i_NoNode_ValueError ?ex_WoodError ?ed_WoodError ?ega_WoodError ?eng_WoodError ?ecl_WoodError ?egt_WoodError ?etk_WoodError ?emo_WoodError ?emb_WoodError ?i_WoodError_NoNode ?i_WoodError_WoodError ?i_WoodError_ValueError ?nt ?nn_look_of_heap_look ?nn_look_of_law_watched ?nn_heap_look_law_watched
  (case d0 | d1 | d2 | d3 | d4 | d5 | d6 | d7 | d8 | d9 | d10 | d11 | d13 | d14 | d15 | d16 | d17 | d18 | d19 | d20 | d21 | d22 | d23 | d24 | d25 | d26 | d27 | d28 | d29 | d30 | d31 | d32 | d33 | d34 | d35 | d36 | d37 | d38 | d39 | d41 | d42 | d43 | d44 | d45 | d46 | d47 | d48 | d49 | d50 | d51 | d52 | d53 | d54 | d55 | d56 | d57 | d58 | d59 | d60 | d61 | d62 | d63 | d64 | d65 | d66 | d67 | d68 | d69 | d70 | d71 | d72 | d73 | d74 | d75 | d76 | d77 | d78 | d79 | d80 | d81 | d82 | d83 | d84 | d85 | d86 | d87 | d88 | d89 | d90 | d92 | d93 | d94=>exact ⟨by k_is,L2.vP (by k_is) (by k_is) (by k_is)⟩); (case a12=>k_is); (case l12=>k_is); (case c12=>k_is); (case k12=>k_is); (case tl_look_of=>k_is); (case tp_look_of=>rfl); (case tr_look_of=>exact ⟨_,rfl⟩); (case a40=>k_is); (case l40=>k_is); (case c40=>k_is); (case k40=>k_is); (case tl_heap_look=>k_is); (case tp_heap_look=>rfl); (case tr_heap_look=>exact ⟨_,rfl⟩); (case a91=>k_is); (case l91=>k_is); (case c91=>k_is); (case k91=>k_is); (case tl_law_watched=>k_is); (case tp_law_watched=>rfl); (case tr_law_watched=>exact ⟨_,rfl⟩); (case z_bool=>k_is); (case z_enumerate=>k_is); (case z_int=>k_is); (case z_isinstance=>k_is); (case z_len=>k_is); (case z_list=>k_is); (case z_max=>k_is); (case z_min=>k_is); (case z_range=>k_is); (case z_reversed=>k_is); (case z_set=>k_is); (case z_sum=>k_is); (case z_tuple=>k_is); (case z_zip=>k_is); (case g_BLOCK_BITS=>k_is); (case g_BLOCK_OCTETS=>k_is); (case g_COUNT_OCTETS=>k_is); (case g_MOST_BITS=>k_is); (case g_MOST_NODES=>k_is); (case g_MOST_NUMBERS=>k_is); (case g_TREE=>k_is); (case q_NoNode=>k_is); (case q_WoodError=>k_is); (case ex_NoNode=>k_exc); (case ed_NoNode=>k_is); (case ega_NoNode=>k_is); (case eng_NoNode=>k_is); (case ecl_NoNode=>k_is); (case egt_NoNode=>k_is); (case etk_NoNode=>k_is); (case emo_NoNode=>k_is); (case emb_NoNode=>k_is); (case i_NoNode_NoNode=>kit_is); (case i_NoNode_WoodError=>kit_is); (case i_NoNode_ValueError=>kit_is); (case ex_WoodError=>k_exc); (case ed_WoodError=>k_is); (case ega_WoodError=>k_is); (case eng_WoodError=>k_is); (case ecl_WoodError=>k_is); (case egt_WoodError=>k_is); (case etk_WoodError=>k_is); (case emo_WoodError=>k_is); (case emb_WoodError=>k_is); (case i_WoodError_NoNode=>kit_is); (case i_WoodError_WoodError=>kit_is); (case i_WoodError_ValueError=>kit_is); (case nt=>kernel_rfl); (case nn_look_of_heap_look=>decide); (case nn_look_of_law_watched=>decide); (case nn_heap_look_law_watched=>decide)
