import PyProof.Rows.All
import Wide.All
import OpenK.AllK
import Wide.FinOn
import Lean
import PyProof.EqAt
import PyProof.EqKinds
import PyProof.TupleCall
import PySem.Challenge.RW_thinwood_k73_nodes_of_texts
set_option Elab.async false
set_option linter.all false
set_option maxRecDepth 100000
theorem bc0{p:Prop}(h:¬p->False):p:=Classical.byContradiction h
local macro_rules
 | `(tactic| obtain $p:rcasesPatMed:=$e:term)=>`(tactic| (refine _root_.bc0 λhG=>?_;rcases $e:term with $p:rcasesPatMed <;> (refine hG ?_;clear hG)))
local macro_rules
 | `(tactic| rintro $ps:rintroPat*)=>do
  let n:=ps.size
  let l:=(ps.getD (n-1) ⟨.missing⟩).raw[0]
  if l.getKind != `Lean.Parser.Tactic.rcasesPat.tuple then Lean.Macro.throwUnsupported
  let q:Lean.TSyntax `rcasesPat:=⟨l⟩
  let arr:=(ps.extract 0 (n-1)).push (<- `(rintroPat| z))
  `(tactic| (rintro $arr*;refine _root_.bc0 λhG=>?_;rcases z with $q:rcasesPat <;> (refine hG ?_;clear hG)))
open List renaming length_map->aaa,getElem?_eq_some_iff->aab,getElem?_eq_getElem->aad,length_append->aaf,mem_of_getElem?->aag,getElem?_map->aah,take_of_length_le->aai,mem_singleton->aaj,map_append->aal,mem_append_right->aav,getElem?_append_left->aaw,size_toArray->aax,getElem?_append_right->aaz,map_cons->aaA,replicate->aaB,mem_cons->aaH,length_take->aaI,mem_cons_of_mem->aaL,length_cons->aaY,mem_cons_self->aa5,getElem?_of_mem->abk,mem_map->abl,append_assoc->abm,mem_append->abn,length_replicate->abt,pairwise_iff_getElem->abR,length_drop->abU,drop_eq_getElem_cons->abV,take_add_one->abW,getElem_mem->abX,take_append_drop->acA,range->adU,cons_lt_cons_iff->aeu,pairwise_append->aew,drop_of_length_le->ae5,Perm->afv,getElem?_take_of_lt->afA,replicate_succ->afB,length_singleton->afC,length_range->afT,mem_append_left->afU,getElem_of_mem->afY,flatten_cons->afZ,map_map->af0,range_succ->af1,mem_singleton_self->af3,cons_append->af5,getD_eq_getElem?_getD->af6,length->af7,extract_eq_drop_take->af9,nodup_cons->aga,getElem?_drop->age,mem_of_mem_drop->agg,getElem?_replicate->agh,mem_range->agi,reverse_append->agk,take_length->ago,not_mem_nil->agp,getElem?_eq_none->agq,getElem?_eq_none_iff->ags,mem_of_mem_take->agt,take_sublist->agv,eq_of_mem_replicate->agx,getElem_drop->agz,filterMap_cons->agB,map_congr_left->agC,filter_cons->agE,getElem?_set_self->agF,zip_cons_cons->agH,dropLast_concat_getLast->agI,append_nil->agJ,of_mem_zip->agK,pairwise_reverse->agM,find?_cons->agP,any_cons->agQ,ext_getElem?->agR,getElem_take->agS,getElem?_set_ne->agT,drop_zero->agU,mem_reverse->agW,zip->agX,take_succ_cons->agY,nil_append->ag1,sum_append->ag2,pairwise_cons->ag5,filter_cons_of_pos->ag6,pairwise_singleton->ag7,take_take->ag9,drop_drop->aha,take_succ->ahb,map_nil->ahc,getElem?_toArray->ahe,lookup_cons->ahg,drop_length->ahi,eq_nil_of_length_eq_zero->ahj,nil_lt_cons->ahk,take_append_of_le_length->ahl,getElem_toArray->ahm,getLastD_concat->aho,forall_mem_cons->ahp,sum_cons->ahq,length_reverse->aht,toList_toArray->ahu,idxOf_lt_length_of_mem->ahv,length_eraseIdx_of_lt->ahy,mem_filterMap->ahz,sublist_append_right->ahD,sublist_append_left->ahF,nodup_append->ahG,reverse_perm->ahH,map_drop->ahK,getElem?_cons_succ->ahM,lt_trans->ahN,take_nil->ahO,length_eq_zero_iff->ahP,filter_cons_of_neg->ahQ,drop_eq_nil_of_le->ahR,pairwise_lt_range->ahS,length_nil->ahV,Perm.append_left->ahW,perm_append_comm->ahX,not_lt_nil->ah1,reverse_reverse->ah3,take_zero->ah4,lt_irrefl->ah5,mem_map_of_mem->ah6,takeWhile_cons->ah8,flatten_append->aia,all_cons->aid,map_take->aie,filter_append->aih,getElem_idxOf->aij,reverse_cons->aik,getElem?_inj->ail,pairwise_map->aio,all_eq_true->aiu,map_reverse->aiy,le_antisymm->aiz,mem_filter->aiA,length_set->aiB,foldl_cons->aiC,length_zip->aiE,Perm.trans->aiF,not_lt->aiG,Perm.refl->aiK,take_left->aiL,foldl->aiM,take_add->aiN,sum_nil->aiR
open Nat renaming le_refl->aac,lt_of_lt_of_le->aao,ne_of_lt->aaq,lt_or_ge->aas,zero_le->aaK,eq_zero_or_pos->acz,le_trans->adh,le_of_lt->adi,lt_irrefl->adK,min_eq_left->aev,two_pow_pos->afS,mul_le_mul_right->afV,mul_comm->afW,add_sub_cancel_left->af2,pow_succ->agb,zero_add->agc,lt_of_le_of_lt->agd,lt_succ_self->agf,le_succ->agj,not_lt_zero->agl,min_eq_right->agn,mul_assoc->agr,lt_trichotomy->agw,lt_succ_of_lt->agy,sub_zero->agA,add_le_add_left->agD,succ_mul->agL,add_mul->agN,one_mul->agO,ne_of_gt->agZ,sub_self->ag0,add_sub_cancel->ag3,le_of_eq->ahd,pow_zero->ahf,le_add_right->ahh,zero_mul->ahA,add_zero->ahB,le_antisymm->ahU,le_total->ah0,pow_le_pow_right->ah2,mul_le_mul_left->ah7,lt_trans->ait,min_le_right->aiv,mul_le_mul->aiI,add_comm->aiQ,pow_add->aiU,mod_lt->aiV
open Array renaming length_toList->aae,getElem?_toList->abT,toList_append->abY,getElem_mem_toList->aco,getElem_toList->acp,toList_push->af8,perm_iff_toList_perm->agm,toList_extract->agu,toList_reverse->ahn,getElem?_eq_some_iff->ahx,size_setIfInBounds->ahI,getElem_extract->ahY,Perm.refl->ahZ,toList_modify->ah9,append_assoc->aic,size_extract->aii,getD->ain,toList->aiP
open Option renaming some.inj->aap,map_eq_some_iff->abu,map_some->ag4,isSome_iff_exists->ahE,toList_some->aif,isSome_map->aim,some.injEq->aip,getD_none->aiw,getD_some->aix,none->aiT,map->aiW
open Bool renaming false_ne_true->aar,false_eq_true->acr,and_eq_true->agV,not_eq_true'->ag8,eq_iff_iff->ahr,or_false->ahJ,or_eq_true->ahT,false_or->aig,true_or->ais,false_and->aiH,not_false->aiJ,not_true->aiO,not_not->aiS
open Int renaming toNat_natCast->abS,emod_lt_of_pos->afX,emod_nonneg->af4,fdiv_eq_ediv_of_nonneg->ahw,lt_or_le->ahC,ediv_ediv_of_nonneg->ahL,toNat_of_nonneg->aib,pow_succ->aiq,ediv_one->air,le_refl->aiD
open Ne renaming symm->ae2
open Or renaming inl->agG,inr->ahs
local macro_rules
 |`(tactic|exists $es,*)=>`(tactic|refine ⟨$es,*, ?_⟩)
open Prod renaming mk->pq
local macro_rules
 |`(($a,$b,*))=>`(⟨$a,$b,*⟩)
namespace L2
open PySem PySem.Spec PyProof.Rows
variable{s:Shared}{w:World}{A:Around}{E:Value->Shared->Prop}{prog:Program}{π:List (Addr×Obj)}{e o tg b:Expr}{K:PySem.W.Frag}{a f C S c dx Pt:Addr}{h' base h:Heap}{mg:Str->Option Value}{x qual name:Str}{N ps:List Str}{scope:Scope}{fd:FuncData}{p apos:Pos}{st:Stmt}{outer:List Env}{R:Result->Shared->Prop}{n i U:Nat}{d M:List Int}{g:Array Keyed}{j:List Addr}{m:Int}{q:Value}{r:List Value}{u:List Nat}{v:List Expr}{y:List (Str×Addr)}{z:List (List Nat)}{D:List (Str×Nat)}{G:SortSt}{I:Array Value}{J:SetTable}{O:Type}{Q:Option Value->Shared->Prop}{T:Value->Addr->Result->Shared->Prop}{Y:List (Int×Value)}{Z:Option Nat->SortSt->Prop}
abbrev Key:=Sum Int Str
def xn:Key->Value->Bool
 | .inl k,v=>Value.isInt k v
 | .inr x,v=>Value.isStrOf x v
def RX(w:World):Key->Int
 | .inl k=>hashInt k
 | .inr x=>hashStr w x
theorem bY:∀{k:Key}{v:Value},xn k v=true->(∃i t,k=Sum.inl i/\v=Value.int i t)\/(∃x t,k=Sum.inr x/\v=Value.str x t)
 | .inl i,v,h=>by
  obtain⟨t,e⟩:=Value.isInt_shape (k:=i) (v:=v) h;exact .inl (i,t,rfl,e)
 | .inr x,v,h=>by
  obtain⟨t,e⟩:=Value.isStrOf_shape (x:=x) (v:=v) h;exact .inr (x,t,rfl,e)
theorem Hh(i:Int)(t:Tok):xn (.inl i) (.int i t)=true:=by simp[xn,Value.isInt]
theorem Hv(x:Str)(t:Tok):xn (.inr x) (.str x t)=true:=by simp[xn,Value.isStrOf]
theorem QV(a b:Int):decide ((Sum.inl a:Key)=Sum.inl b)=(a == b):=by
 by_cases e:a=b
 ·subst e;simp
 ·have h:¬(Sum.inl a:Key)=Sum.inl b:=λq=>e (Sum.inl.inj q);rw[decide_eq_false h];exact(beq_eq_false_iff_ne.mpr e).symm
theorem Qi(a b:Str):decide ((Sum.inr a:Key)=Sum.inr b)=decide (a=b):=by
 by_cases e:a=b
 ·subst e;simp
 ·have h:¬(Sum.inr a:Key)=Sum.inr b:=λq=>e (Sum.inr.inj q);rw[decide_eq_false h,decide_eq_false e]
theorem Pg(a:Int)(b:Str):decide ((Sum.inl a:Key)=Sum.inr b)=false:=decide_eq_false (λq=>nomatch q)
theorem PX(a:Str)(b:Int):decide ((Sum.inr a:Key)=Sum.inl b)=false:=decide_eq_false (λq=>nomatch q)
def b8(prog:Program)(w:World):PySem.KeyKind prog w Key where
 is:=xn
 hash:=RX w
 inj:=λv a b l f=>by
  rcases bY l with ⟨i,t,rfl,rfl⟩|⟨x,t,rfl,rfl⟩
  ·rcases bY f with ⟨j,u,rfl,e⟩|⟨y,u,rfl,e⟩
   ·injection e with c _;rw[c]
   ·exact nomatch e
  ·rcases bY f with ⟨j,u,rfl,e⟩|⟨y,u,rfl,e⟩
   ·exact nomatch e
   ·injection e with c _;rw[c]
 byValue:=λk v h=>by
  rcases bY h with ⟨i,t,rfl,rfl⟩|⟨x,t,rfl,rfl⟩ <;> rfl
 pyHash:=λd h=>by
  rcases bY d with ⟨i,t,rfl,rfl⟩|⟨x,t,rfl,rfl⟩
  ·exact wpAny_pyHash_int h
  ·exact wpAny_pyHash_str h
 eqBool:=λg d h=>by
  rcases bY g with ⟨i,t,rfl,rfl⟩|⟨x,t,rfl,rfl⟩
  ·rcases bY d with ⟨j,u,rfl,rfl⟩|⟨y,u,rfl,rfl⟩
   ·rw[QV]at h;exact wpAny_eqBool_int h
   ·rw[Pg]at h;exact SeqAt.EqAt.int_str i t y u _ _ _ _ h
  ·rcases bY d with ⟨j,u,rfl,rfl⟩|⟨y,u,rfl,rfl⟩
   ·rw[PX]at h;exact SeqAt.EqAt.str_int x t j u _ _ _ _ h
   ·rw[Qi]at h;exact wpAny_eqBool_str h
 «strs»:=λk x t v h=>by
  rcases bY h with ⟨i,u,rfl,e⟩|⟨y,u,rfl,e⟩
  ·exact nomatch e
  ·injection e with c _
   subst c;cases v <;> rfl
theorem Cj(prog:Program)(w:World)(i:Int)(t:Tok):(b8 prog w).is (.inl i) (.int i t)=true:=Hh i t
theorem Ba(prog:Program)(w:World)(x:Str)(t:Tok):(b8 prog w).is (.inr x) (.str x t)=true:=Hv x t
inductive V where
 | non|bl (b:Bool) | int (i:Int) | str (x:Str) | U3 (b:Array UInt8) | flt (b:UInt64) | ref (a:Addr) | ty (n:String)
 deriving DecidableEq
def RelV:V->Value->Prop
 | .non,u=>u=Value.none
 | .bl b,u=>u=Value.bool b
 | .int i,u=>∃t,u=Value.int i t
 | .str x,u=>∃t,u=Value.str x t
 | .U3 b,u=>∃t,u=Value.bytes b t
 | .flt b,u=>∃t,u=Value.float b t
 | .ref a,u=>u=Value.ref a
 | .ty n,u=>u=Value.type n
abbrev Vals:List V->List Value->Prop:=Paired RelV
theorem Vals.length{xs:List V}{a:List Value}(r:Vals xs a):xs.length=a.length:=Paired.length r
theorem Vals.get:∀{xs:List V}{a:List Value}{i:Nat}{x:V},Vals xs a->xs[i]?=some x -> ∃u,a[i]?=some u/\RelV x u
 | _,_,_,_,.nil,e=>by simp at e
 | _,_,0,_,.cons r _,e=>by simp at e;subst e;exact(_,rfl,r)
 | _,_,i+1,x,.cons _ t,e=>by
  obtain⟨u,c,b⟩:=Vals.get (i:=i) (x:=x) t (by simpa using e);exact(u,by simpa using c,b)
theorem Vals.set{x:V}{u:Value}(r:RelV x u):∀{xs:List V}{a:List Value} (i:Nat),Vals xs a->Vals (xs.set i x) (a.set i u)
 | _,_,_,.nil=>.nil
 | _,_,0,.cons _ t=>.cons r t
 | _,_,i+1,.cons q t=>.cons q (Vals.set r i t)
theorem Vals.append:∀{xs ys:List V}{b a:List Value},Vals xs b->Vals ys a->Vals (xs++ys) (b++a)
 | _,_,_,_,.nil,s=>s
 | _,_,_,_,.cons r t,s=>.cons r (Vals.append t s)
theorem Vals.take:∀{xs:List V}{a:List Value} (n:Nat),Vals xs a->Vals (xs.take n) (a.take n)
 | _,_,0,_=>.nil
 | _,_,_+1,.nil=>.nil
 | _,_,n+1,.cons r t=>.cons r (Vals.take n t)
theorem Vals.drop:∀{xs:List V}{a:List Value} (n:Nat),Vals xs a->Vals (xs.drop n) (a.drop n)
 | _,_,0,r=>r
 | _,_,_+1,.nil=>.nil
 | _,_,n+1,.cons _ t=>Vals.drop n t
def vZ:Option V->Option Value->Prop
 | some v,some u=>RelV v u
 | none,none=>True
 | _,_=>False
def KV{κ:Type}:List (κ×V)->List (κ×Value)->Prop:=Paired λ(p:κ×V) (q:κ×Value)=>p.1=q.1/\RelV p.2 q.2
def kV:Key->V
 | .inl i=>.int i
 | .inr x=>.str x
inductive HO where
  | lst (xs:List V)
  | tup (xs:List V)
  | dK (kvs:List (Key×V)) | dT (kvs:List (List Key×V))
  | set (S:Int->Bool) (n:Nat)
  | ins (C dx:Addr) (fs:List (Str×V))
  | own (x:Addr)
  | xd (fs:List (Str×V))
  | met (f x:Addr)
  | Xj (lo hi:Int)
  | Ua (o:Obj) (u:HO)
  | Tf (ps:Array Value)
  | ext (φ:Heap->Prop)
abbrev Hp:=Addr->Option HO
def upd(H:Hp)(a:Addr)(o:HO):Hp:=λb=>if b=a then some o else H b
theorem au{H:Hp}{a:Addr}{o:HO}:upd H a o a=some o:=by unfold upd;rw[if_pos rfl]
theorem aH{H:Hp}{a b:Addr}{o:HO}(h:b≠a):upd H a o b=H b:=by unfold upd;rw[if_neg h]
theorem oH{H:Hp}{a:Addr}{o u:HO}:upd (upd H a o) a u=upd H a u:=by
 funext b;unfold upd;split <;> rfl
theorem Ru{H:Hp}{a b:Addr}{o u:HO}(h:H a=some o)(h':H b=some u)(d:o≠u):a≠b:=by
 intro e;subst e;rw[h]at h';exact d (aap h')
theorem aJ{H:Hp}{a b:Addr}{o:HO}(h:H a=some o)(h':H b=none):a≠b:=by
 intro e;subst e;rw[h]at h';cases h'
section
variable(P:Program)(w:World)
def bB(H:Hp)(h:Heap)(a:Addr):HO->Prop
 | .lst d=>d.length<=sizeLine /\ ∃(c:List Value) (n:Nat),Vals d c/\h.get? a=some { cls:=.type "list",data:=.seq c.toArray n }
 | .tup d=>d.length<=sizeLine /\ ∃c:List Value,Vals d c/\IsTup h a c.toArray
 | .dK b=>b.length<=sizeLine/\(a == sysModules)=false /\ ∃k,KV b k/\h.DictOf (b8 P w) a k
 | .dT b=>b.length<=sizeLine/\(a == sysModules)=false /\ ∃d:List (List Key×Addr×Value),
   Paired (λ(p:List Key×V) (q:List Key×Addr×Value)=>p.1=q.1/\H q.2.1=some (.tup (p.1.map kV))/\RelV p.2 q.2.2) b d /\
   ∃o r A,h.get? a=some o/\o.ExactDict/\o.data=.dict r A/\r.toList=d.map (entryOfKey (tupleKind (b8 P w)))/\(d.map (·.1)).Nodup
 | .set S n=>h.SetOf (intKind P w) a S n
 | .ins C i g=>H i=some (.own a)/\g.length<=1000/\i≠a/\h.get? a=some (PySem.W.instObj C i) /\
   ∃e,h.Ns1 i e/\(∀f,vZ (g.lookup f) (e f))/\PySem.Within e (g.map (·.1))
 | .own _=>∃o,h.get? a=some o
 | .xd g=>∃e,h.Ns1 a e /\ ∀f,vZ (g.lookup f) (e f)
 | .Xj y z=>∃t u v,h.get? a=some { cls:=.type "range",data:=.fields #[.int y t,.int z u,.int 1 v] }
 | .Ua o u=>h.get? a=some o/\bB H h a u
 | .Tf s=>h.get? a=some { cls:=.none,data:=.fields s }
 | .met f x=>h.get? a=some (PySem.W.methodObj (.ref f) (.ref x))
 | .ext j=>j h/\(∃o,h.get? a=some o) /\ ∀m l:Heap,j m->(∀o,m.get? a=some o->l.get? a=some o)->j l
def Ti(H:Hp)(h:Heap):Prop:=∀a o,H a=some o->bB P w H h a o
end
section
variable{P:Program}{H H':Hp}{o:HO}
theorem bB.lt(x:bB P w H h a o):a<h.objs.size:=by
 cases o with
 | lst c=>obtain⟨_,_,_,_,e⟩:=x;exact Heap.lt_size e
 | tup c=>obtain⟨_,_,_,p⟩:=x;exact p.lt
 | dK b=>obtain⟨_,_,_,_,o,_,_,e,_⟩:=x;exact Heap.lt_size e
 | dT b=>obtain⟨_,_,_,_,o,_,_,e,_⟩:=x;exact Heap.lt_size e
 | set S n=>obtain⟨o,_,_,_,e,_⟩:=x;exact Heap.lt_size e
 | ins C m d=>obtain⟨_,_,_,e,_⟩:=x;exact Heap.lt_size e
 | own y=>obtain⟨_,e⟩:=x;exact Heap.lt_size e
 | xd d=>obtain⟨_,⟨_,_,_,e,_⟩,_⟩:=x;exact Heap.lt_size e
 | Xj k l=>obtain⟨_,_,_,e⟩:=x;exact Heap.lt_size e
 | Ua j u=>obtain⟨e,_⟩:=x;exact Heap.lt_size e
 | Tf i=>exact Heap.lt_size (show h.get? a=some _ from x)
 | met f y=>exact Heap.lt_size (show h.get? a=some _ from x)
 | ext g=>obtain⟨_,⟨_,e⟩,_⟩:=x;exact Heap.lt_size e
theorem Paired.mapP{e d:Type}{F G:e->d->Prop}:∀{c:List e}{l₂:List d},Paired F c l₂->(∀a b,F a b->G a b)->Paired G c l₂
 | _,_,.nil,_=>.nil
 | _,_,.cons r t,f=>.cons (f _ _ r) (Paired.mapP t f)
theorem bB.stay(x:bB P w H h a o)(k:∀b u,(b=a\/H b=some (.own a))->h.get? b=some u->h'.get? b=some u)
  (I:∀b,H b=some (.own a)->H' b=some (.own a))(ht:∀b xs,H b=some (.tup xs)->H' b=some (.tup xs)):bB P w H' h' a o:=by
 induction o with
 | lst xs=>obtain⟨z,l,n,r,e⟩:=x;exact(z,l,n,r,k _ _ (.inl rfl) e)
 | tup xs=>obtain⟨z,l,r,g,e,c⟩:=x;exact(z,l,r,g,k _ _ (.inl rfl) e,c)
 | dK A=>obtain⟨z,y,E,r,g,i,j,e,c⟩:=x;exact(z,y,E,r,g,i,j,k _ _ (.inl rfl) e,c)
 | dT A =>
  obtain⟨z,y,xs,r,g,i,j,e,c⟩:=x;exact(z,y,xs,Paired.mapP r λp q z=>(z.1,ht _ _ z.2.1,z.2.2),g,i,j,k _ _ (.inl rfl) e,c)
 | set S n=>obtain⟨g,i,j,t,e,c⟩:=x;exact(g,i,j,t,k _ _ (.inl rfl) e,c)
 | ins C O J =>
  obtain⟨d,z,F,e,s,⟨m,i,j,K,c⟩,r⟩:=x;exact(I _ d,z,F,k _ _ (.inl rfl) e,s,(m,i,j,k _ _ (.inr d) K,c),r)
 | own y=>obtain⟨g,e⟩:=x;exact(g,k _ _ (.inl rfl) e)
 | xd J=>obtain⟨s,⟨m,i,j,e,c⟩,r⟩:=x;exact(s,(m,i,j,k _ _ (.inl rfl) e,c),r)
 | Xj M N=>obtain⟨t,u,v,e⟩:=x;exact(t,u,v,k _ _ (.inl rfl) e)
 | Ua g u G=>obtain⟨e,q⟩:=x;exact(k _ _ (.inl rfl) e,G q)
 | Tf D =>
  have e:h.get? a=some { cls:=.none,data:=.fields D }:=x;show h'.get? a=some { cls:=.none,data:=.fields D };exact k a _ (.inl rfl) e
 | met f y =>
  have e:h.get? a=some (PySem.W.methodObj (.ref f) (.ref y)):=x;show h'.get? a=some (PySem.W.methodObj (.ref f) (.ref y));exact k a _ (.inl rfl) e
 | ext L=>obtain⟨p,⟨o,e⟩,B⟩:=x;exact(B _ _ p λo q=>k _ _ (.inl rfl) q,(o,k _ _ (.inl rfl) e),B)
theorem Ti.lt(x:Ti P w H h)(e:H a=some o):a<h.objs.size:=(x a o e).lt
theorem Ti.fresh(x:Ti P w H h)(e:h.objs.size<=a):H a=none:=by
 cases q:H a with
 | none=>rfl
 | some u=>exact absurd (aao (x.lt q) e) (adK _)
theorem Ti.kept(x:Ti P w H h)(k:∀b u,h.get? b=some u->h'.get? b=some u):Ti P w H h':=λa o e =>
 (x a o e).stay (λb u _ q=>k b u q) (λ_ q=>q) λ_ _ q=>q
theorem Ti.laid(x:Ti P w H h)(k:∀b u,h.get? b=some u->h'.get? b=some u)(i:h.objs.size<=a)(d:bB P w (upd H a o) h' a o):Ti P w (upd H a o) h':=λb u e=>by
 have f:=x.fresh i;by_cases g:b=a
 ·subst g;rw[au]at e;cases e;exact d
 ·rw[aH g]at e;exact(x b u e).stay (λc v _ q=>k c v q) (λc q=>by rw[aH (aJ q f)];exact q) λc j q=>by rw[aH (aJ q f)];exact q
end
def Rd(H:Hp)(a:Addr)(u:HO):Prop:=H a=some u \/ ∃o,H a=some (.Ua o u)
theorem Rd.ok{P:Program}{w:World}{H:Hp}{a:Addr}{u:HO}(r:Rd H a u)(x:Ti P w H h'):bB P w H h' a u:=by
 rcases r with r|⟨o,r⟩
 ·exact x a u r
 ·obtain⟨_,q⟩:=x a _ r;exact q
def WD:Option HO->Prop
 | some (.lst _)=>True
 | some (.dK _)=>True
 | some (.dT _)=>True
 | some (.set _ _)=>True
 | some (.ins _ _ _)=>True
 | some (.ext _)=>True
 | _=>False
section
variable{P:Program}{H:Hp}{x e:Addr}{o':HO}
theorem Ti.write(s:Ti P w H h)(i:WD (H x))(p:e=x\/H e=some (.own x))(k:∀b u,b≠e->h.get? b=some u->h'.get? b=some u)(n:∃u,h'.get? e=some u)
  (m:bB P w (upd H x o') h' x o'):Ti P w (upd H x o') h':=λb u q=>by
 have d:∀c y,H c=some (.own y)->c≠x:=λc y r z=>by subst z;rw[r]at i;exact i
 have f:∀c g,H c=some (.tup g)->c≠x:=λc g r z=>by subst z;rw[r]at i;exact i
 by_cases l:b=x
 ·subst l;rw[au]at q;cases q;exact m
 ·rw[aH l]at q;by_cases a:b=e
  ·have o:H b=some (.own x):=by
    rcases p with z|z
    ·exact absurd (a.trans z) l
    ·rw[a];exact z
   rw[q]at o;cases o;obtain⟨v,t⟩:=n;exact(v,by rw[a];exact t)
  ·refine(s b u q).stay (λc v j r=>k c v ?_ r) (λc r=>by rw[aH (d c b r)];exact r) λc g r=>by rw[aH (f c g r)];exact r
   rcases j with rfl|j
   ·exact a
   ·rintro rfl;rcases p with z|z
    ·exact d c b j z
    ·rw[j]at z;cases z;exact l rfl
end
structure Un(fs ex:List Addr)(H H':Hp)(h h':Heap):Prop where
 keep:∀b o,h.get? b=some o->H b=none->b∉fs->b∉ex->h'.get? b=some o
 slot:∀b o,h.get? b=some o->H b=none->b∈fs->b∉ex -> ∃sl,h'.get? b=some { o with slots:=sl }
 free:∀b o,h.get? b=some o->H b=none->b∉ex->H' b=none
 there:∀b o,h.get? b=some o->b∉ex -> ∃o',h'.get? b=some o'
 tups:∀b xs,H b=some (.tup xs)->H' b=some (.tup xs)
 frzs:∀b o u,H b=some (.Ua o u)->H' b=some (.Ua o u)
 tbls:∀b ps,H b=some (.Tf ps) -> ∃more,H' b=some (.Tf (ps++more))
section
variable{fs fs' ex ex':List Addr}{H H1 H2:Hp}{h1 h2:Heap}{x e:Addr}{o:HO}
theorem Un.any(u:Un fs ex H H1 h h1){b:Addr}{c:Obj}(q:h.get? b=some c)(n:H b=none)(d:b∉ex):∃g,h1.get? b=some { c with slots:=g }:=by
 by_cases f:b∈fs
 ·exact u.slot b c q n f d
 ·exact(c.slots,u.keep b c q n f d)
theorem Un.kept(k:∀b u,h.get? b=some u->h'.get? b=some u):Un fs ex H H h h':=
 (λb c q _ _ _=>k b c q,λb c q _ _ _=>(c.slots,k b c q),λ_ _ _ n _=>n,λb c q _=>(c,k b c q),λ_ _ q=>q,λ_ _ _ q=>q,λ_ d q=>(#[],by rw[q];simp))
theorem Un.refl:Un fs ex H H h h:=Un.kept λ_ _ q=>q
theorem Un.laid(k:∀b u,h.get? b=some u->h'.get? b=some u)(f:h.objs.size<=a)(c:H a=none):Un fs ex H (upd H a o) h h' where
 keep:=λb u q _ _ _=>k b u q
 slot:=λb u q _ _ _=>(u.slots,k b u q)
 free:=λb u q n _=>by rw[aH (aaq (aao (Heap.lt_size q) f))];exact n
 there:=λb u q _=>(u,k b u q)
 tups:=λb d q=>by rw[aH (aJ q c)];exact q
 frzs:=λb u d q=>by rw[aH (aJ q c)];exact q
 tbls:=λb g q=>(#[],by rw[aH (aJ q c),q];simp)
theorem Un.write(d:WD (H x))(p:e=x\/H e=some (.own x))(k:∀b u,b≠e->h.get? b=some u->h'.get? b=some u)(g:∃u,h'.get? e=some u):Un fs ex H (upd H x o) h h':=by
 have i:∀b,H b=none->b≠x:=λb n z=>by subst z;rw[n]at d;exact d
 have j:∀b,H b=none->b≠e:=λb n z=>by
  subst z;rcases p with r|r
  ·exact i b n r
  ·rw[n]at r;cases r
 have f:∀b u,H b=some u -> ¬WD (some u)->b≠x:=λb u q m z=>by subst z;rw[q]at d;exact m d
 refine(λb u q n _ _=>k b u (j b n) q,λb u q n _ _=>(u.slots,k b u (j b n) q),λb u q n _=>by rw[aH (i b n)];exact n,λb u q _=>?_,
  λb l q=>by rw[aH (f b _ q λz=>z)];exact q,λb u l q=>by rw[aH (f b _ q λz=>z)];exact q,λb s q=>(#[],by rw[aH (f b _ q λz=>z),q];simp))
 by_cases c:b=e
 ·subst c;exact g
 ·exact(u,k b u c q)
end
def Vw(h:Heap)(H:Hp):List Addr:=(adU h.objs.size).filter λa=>(H a).isSome
def vO(h:Heap)(H:Hp):Heap:=PySem.W.hideAll h (Vw h H)
theorem Jm(h:Heap)(H:Hp):(vO h H).objs.size=h.objs.size:=PySem.W.hideAll_size _ _
theorem Kr{H:Hp}{b:Addr}{o:Obj}(e:h'.get? b=some o)(n:H b=none):(vO h' H).get? b=some o:=
 PySem.W.hideAll_get _ e λa=>by
  have q:(H b).isSome=true:=(aiA.mp a).2;rw[n]at q;simp at q
theorem Mz{H:Hp}{b:Addr}{o:Obj}(e:(vO h' H).get? b=some o):h'.get? b=some o/\H b=none:=by
 have a:h'.get? b=some o:=PySem.W.of_hideAll (Vw h' H) e;exists a;cases q:H b with
 | none=>rfl
 | some x =>
  have c:b∈Vw h' H:=aiA.mpr (agi.mpr (Heap.lt_size a),by simp[q]);have z:(vO h' H).get? b=none:=PySem.W.hideAll_none (Vw h' H) c;rw[z]at e;cases e
def Ni(g h:Heap)(L:Addr):List (Addr×Obj):=(adU h.objs.size).filterMap λa=>if a=L\/(g.get? a).isSome=true then none else (h.get? a).map λo=>(pq a o)
def rest(g h:Heap)(L d:Addr):List (Addr×Obj):=(Ni g h L).filter λp=>decide (p.1≠d)
structure Mod(K:PySem.W.Frag)(mg:Str->Option Value)(base:Heap):Prop where
 WF:K.In base
 glob:base.Ns mainGlobals mg
 blt:∃mb,base.Ns builtinsNs mb /\ ∀x:Str,x ≠ "__name__" -> mb x=bootBuiltins x
 nolimit:base.NoLimit
structure Cx where
 prog:Program
 w:World
 K:PySem.W.Frag
 mg:Str->Option Value
 base:Heap
 A:Around
 N:List Str
 s₀:Shared
 H₀:Hp
 env:Env
 outer:List Env
 stack:List Env
 ex:List Addr
 fn:Str->Bool
 calm:Bool
 pn:List (Addr×Obj)
 xe:Value->Shared->Prop
def frs(l:List Env):List Addr:=l.filterMap (·.frame)
abbrev Cx.fs(X:Cx):List Addr:=frs X.outer
def Xk(a:Scope)(x:Str):Prop:=a.names.lookup x=some .local\/a.names.lookup x=some .cell\/a.names.lookup x=some .free
def Loc(a:Scope)(x:Str):Prop:=a.names.lookup x=some .local\/a.names.lookup x=some .cell
def Look(a:Env)(h:Heap)(m:Str->Option Value)(x:Str)(u:Value):Prop:=
 (a.kindOf x=some .local/\m x=some u)\/((a.kindOf x=some .cell\/a.kindOf x=some .free) /\ ∃c,a.cells.lookup x=some c/\h.IsCell c (some u))
structure Cx.Ok(X:Cx):Prop where
 mod:Mod X.K X.mg X.base
 kind:X.env.scope.kind=.function
 glob:X.env.globals=mainGlobals
 blt:X.env.builtins=builtinsNs
 above:X.s₀.heap.objs.size<=X.env.locals
 inj:∀x y c,X.env.cells.lookup x=some c->X.env.cells.lookup y=some c->x=y
 has:∀x,(X.env.kindOf x=some .cell\/X.env.kindOf x=some .free) -> ∃c,X.env.cells.lookup x=some c
 cab:∀x c,X.fn x=true->X.env.cells.lookup x=some c->X.s₀.heap.objs.size<=c
 hd:X.calm=true->X.A.handled=none
 frames:X.A.frames=some X.stack
 VR:X.stack=X.outer\/(X.stack=X.env::X.outer/\X.env.frame=some X.env.locals)
 exf:∀b∈X.ex,b≠X.env.locals /\ ∀x c,X.env.cells.lookup x=some c->c≠b
 bs:∀b o,X.base.get? b=some o->X.s₀.heap.get? b=some o/\X.H₀ b=none
 U4:X.base.objs.size<=X.s₀.heap.objs.size
 noex:∀b o,X.base.get? b=some o->b∉X.ex
 exfs:∀b∈X.ex,b∉X.fs
 funs:X.s₀.heap.FunFrames X.base X.outer
 Vh:∀b∈X.fs,X.H₀ b=none
structure Inv(X:Cx)(π:List (Addr×Obj))(σ:List (Option V))(H:Hp)(s:Shared):Prop where
 ok:X.Ok
 os:s.os=X.s₀.os
 bare:AllBare s.gens
 base:Un X.fs X.ex X.H₀ H X.s₀.heap s.heap
 loc:∃m,s.heap.Ns X.env.locals m /\ ∀(i:Nat) (x:Str) (v:V),X.N[i]?=some x->σ[i]?=some (some v)->Xk X.env.scope x -> ∃u,RelV v u/\Look X.env s.heap m x u
 cell:∀x c,X.env.cells.lookup x=some c -> ∃v,s.heap.IsCell c v
 free:H X.env.locals=none
 freeC:∀x c,X.env.cells.lookup x=some c->H c=none
 pin:∀p∈X.pn++π,s.heap.get? p.1=some p.2/\H p.1=none/\p.1≠X.env.locals/\p.1∉X.fs /\ ∀v,p.2.data ≠ .cell v
 hok:Ti X.prog X.w H s.heap
 len:σ.length=X.N.length
section
variable{X:Cx}{σ:List (Option V)}{H H':Hp}
theorem Cx.Ok.nofr(a:X.Ok){b:Addr}{o:Obj}(e:X.base.get? b=some o):b∉X.fs:=λc=>by
 have:=(a.funs.mem c).1;rw[e]at this;cases this
theorem Inv.bs(I:Inv X π σ H s):∀b o,X.base.get? b=some o->s.heap.get? b=some o/\H b=none:=λb o e =>
 (I.base.keep b o (I.ok.bs b o e).1 (I.ok.bs b o e).2 (I.ok.nofr e) (I.ok.noex b o e),I.base.free b o (I.ok.bs b o e).1 (I.ok.bs b o e).2 (I.ok.noex b o e))
theorem Inv.bk(I:Inv X π σ H s):∀b o,X.base.get? b=some o->s.heap.get? b=some o:=λb o e=>(I.bs b o e).1
theorem Inv.mod(I:Inv X π σ H s):Mod X.K X.mg X.base:=I.ok.mod
theorem Inv.Ug(I:Inv X π σ H s):X.K.In s.heap:=I.ok.mod.WF.keeps I.bk
theorem Inv.lt(I:Inv X π σ H s):X.env.locals<s.heap.objs.size:=let ⟨_,hn,_⟩:=I.loc;hn.lt
theorem Inv.sz(I:Inv X π σ H s):X.s₀.heap.objs.size<=s.heap.objs.size:=adh I.ok.above (adi I.lt)
theorem Inv.nofs(I:Inv X π σ H s){a:Addr}(h:s.heap.objs.size<=a):a∉X.fs:=λc=>by
 obtain⟨_,o,b,_⟩:=I.ok.funs.mem c;exact absurd (aao (Heap.lt_size b) (adh I.sz h)) (adK _)
theorem Inv.V0(I:Inv X π σ H s):∀x c,X.env.cells.lookup x=some c->c≠X.env.locals:=λx c e z=>by
 obtain⟨v,o,d,hd⟩:=I.cell x c e;obtain⟨m,⟨f,g,h,a,b,_⟩,_⟩:=I.loc;rw[z,a]at d;cases d;rw[b]at hd;cases hd
theorem Inv.funs(I:Inv X π σ H s):s.heap.FunFrames X.base X.outer:=by
 have f:∀(l:List Env),(∀b∈frs l,b∈X.fs)->X.s₀.heap.FunFrames X.base l->s.heap.FunFrames X.base l:=by
  intro l
  induction l with
  | nil=>intro _ _;trivial
  | cons p r h =>
   intro g m;obtain⟨n,⟨L,o,a,k,j,hd⟩,i⟩:=m;have d:L∈X.fs:=g L (by unfold frs;rw[agB,a];exact aa5);obtain⟨q,e⟩:=I.base.slot L o j (I.ok.Vh L d) d λz=>I.ok.exfs L z d;exact(n,(L,_,a,k,e,hd),h (λb c=>g b (by unfold frs;rw[agB,a];exact aaL _ c)) i)
 exact f X.outer (λ_ c=>c) I.ok.funs
theorem Inv.stack(I:Inv X π σ H s):s.heap.FunFrames X.base X.stack:=by
 rcases I.ok.VR with e|⟨e,b⟩
 ·rw[e];exact I.funs
 ·rw[e];obtain⟨m,a,_⟩:=I.loc;refine .cons (by rw[I.ok.kind];decide) b a ?_ I.funs;exact Heap.get?_none_of_le (adh I.ok.U4 I.ok.above)
theorem Inv.stkSub(I:Inv X π σ H s):∀b∈frs X.stack,b∈X.env.locals::X.fs:=λb a=>by
 rcases I.ok.VR with e|⟨e,c⟩
 ·rw[e]at a;exact aaL _ a
 ·rw[e]at a;unfold frs at a;rw[agB,c]at a;exact a
theorem Inv.stkFree(I:Inv X π σ H s):∀b∈frs X.stack,H b=none:=λb a=>by
 rcases aaH.mp (I.stkSub b a)with e|a
 ·rw[e];exact I.free
 ·obtain⟨_,o,c,_⟩:=I.ok.funs.mem a;exact I.base.free b o c (I.ok.Vh b a) λz=>I.ok.exfs b z a
theorem Inv.step{g':Array GenState}{t':Nat}{d':Drawn}{ch:List Addr}(I:Inv X π σ H s)
  (g:∀b∈ch,(b∈X.ex\/X.s₀.heap.objs.size<=b)/\b≠X.env.locals/\(∀x c,X.env.cells.lookup x=some c->c≠b) /\ ∀p∈X.pn++π,p.1≠b)
  (h:∀b o,b≠X.env.locals->b∉X.fs->b∉ch->s.heap.get? b=some o->H b=none->h'.get? b=some o)
  (y:∀b o,b≠X.env.locals->b∈X.fs->b∉ch->s.heap.get? b=some o->H b=none -> ∃O,h'.get? b=some { o with slots:=O })(f:∀b o,b∉ch->s.heap.get? b=some o->H b=none->H' b=none)
  (B:∀b o,b∉ch->s.heap.get? b=some o -> ∃D,h'.get? b=some D)
  (J:∀b xs,H b=some (.tup xs)->H' b=some (.tup xs))(M:∀b o u,H b=some (.Ua o u)->H' b=some (.Ua o u))(K:∀b ps,H b=some (.Tf ps) -> ∃L,H' b=some (.Tf (ps++L)))
  (V:∀m,s.heap.Ns X.env.locals m->h'.Ns X.env.locals m)(Q:Ti X.prog X.w H' h')(hg:AllBare g'):
  Inv X π σ H' { s with heap:=h',gens:=g',drawn:=d',toks:=t' }:=by
 have G:∀b o,X.s₀.heap.get? b=some o->b≠X.env.locals:=λb o e=>aaq (aao (Heap.lt_size e) I.ok.above);have N:∀b o,X.s₀.heap.get? b=some o->b∉X.ex->b∉ch:=λb o e a A=>by
  rcases(g b A).1 with z|z
  ·exact a z
  ·exact absurd (aao (Heap.lt_size e) z) (adK _)
 have j:∀x c,X.env.cells.lookup x=some c -> ∀v,s.heap.IsCell c v->h'.IsCell c v:=λx c e v ⟨o,C,hd⟩=>by
  have F:c∉ch:=λz=>(g c z).2.2.1 x c e rfl;by_cases U:c∈X.fs
  ·obtain⟨O,q⟩:=y c o (I.V0 x c e) U F C (I.freeC x c e);exact(_,q,hd)
  ·exact(o,h c o (I.V0 x c e) U F C (I.freeC x c e),hd)
 refine(I.ok,I.os,hg,(λb o e n A a=>?_,λb o e n A a=>?_,λb o e n a=>?_,λb o e a=>?_,λb xs e=>J b xs (I.base.tups b xs e),λb o xs e=>M b o xs (I.base.frzs b o xs e),λb ps e=>?_),?_,λx c e=>?_,?_,λx c e=>?_,λp T=>?_,Q,I.len)
 ·exact h b o (G b o e) A (N b o e a) (I.base.keep b o e n A a) (I.base.free b o e n a)
 ·obtain⟨O,t⟩:=I.base.slot b o e n A a;obtain⟨P,E⟩:=y b _ (G b o e) A (N b o e a) t (I.base.free b o e n a);exact(P,E)
 ·obtain⟨D,t⟩:=I.base.there b o e a;exact f b D (N b o e a) t (I.base.free b o e n a)
 ·obtain⟨D,t⟩:=I.base.there b o e a;exact B b D (N b o e a) t
 ·obtain⟨Y,t⟩:=I.base.tbls b ps e;obtain⟨W,E⟩:=K b _ t;exact(Y++W,by rw[E,aic])
 ·obtain⟨m,Z,hl⟩:=I.loc;refine(m,V m Z,λi x v t E e3=>?_);obtain⟨u,r,l⟩:=hl i x v t E e3;exists u,r;rcases l with l|⟨k,c,e,z⟩
  ·exact .inl l
  ·exact .inr (k,c,e,j x c e _ z)
 ·obtain⟨v,z⟩:=I.cell x c e;exact(v,j x c e v z)
 ·obtain⟨m,⟨o,_,_,C,_⟩,_⟩:=I.loc;exact f _ o (λz=>(g _ z).2.1 rfl) C I.free
 ·obtain⟨v,o,C,hd⟩:=I.cell x c e;exact f c o (λz=>(g c z).2.2.1 x c e rfl) C (I.freeC x c e)
 ·obtain⟨e,n,S,R,d⟩:=I.pin p T;have F:p.1∉ch:=λz=>(g p.1 z).2.2.2 p T rfl;exact(h p.1 p.2 S R F e n,f p.1 p.2 F e n,S,R,d)
theorem Inv.un{t':Nat}(I:Inv X π σ H s)(u:Un X.fs [] H H' s.heap h')(d:Ti X.prog X.w H' h'):Inv X π σ H' { s with heap:=h',toks:=t' }:=by
 obtain⟨m,⟨o,t,v,h,r⟩,_⟩:=id I.loc;obtain⟨l,k⟩:=u.any h I.free (by simp);exact I.step (g':=s.gens) (d':=s.drawn) (ch:=[]) (λ_ z=>nomatch z) (λb o _ c _ e n=>u.keep b o e n c (by simp)) (λb o _ c _ e n=>u.slot b o e n c (by simp)) (λb o _ e n=>u.free b o e n (by simp)) (λb o _ e=>u.there b o e (by simp)) u.tups u.frzs u.tbls (λq j=>by
  obtain⟨p,f,g,a,i⟩:=j;rw[h]at a;cases a;exact(_,f,g,k,i)) d I.bare
theorem Inv.call{g':Array GenState}{t':Nat}{d':Drawn}{ch:List Addr}(I:Inv X π σ H s)(u:Un (frs X.stack) ch H H' s.heap h')(h:Ti X.prog X.w H' h')(t:AllBare g')
  (f:∀b∈ch,(b∈X.ex\/X.s₀.heap.objs.size<=b)/\b≠X.env.locals/\(∀x c,X.env.cells.lookup x=some c->c≠b) /\ ∀p∈X.pn++π,p.1≠b):
  Inv X π σ H' { s with heap:=h',gens:=g',drawn:=d',toks:=t' }:=by
 obtain⟨m,⟨o,C,D,k,r⟩,_⟩:=id I.loc;obtain⟨y,g⟩:=u.any k I.free λz=>(f _ z).2.1 rfl;exact I.step (ch:=ch) f (λb o g v a e n=>u.keep b o e n (λz=>(aaH.mp (I.stkSub b z)).elim g v) a) (λb o _ _ a e n=>u.any e n a) (λb o a e n=>u.free b o e n a) (λb o a e=>u.there b o e a) u.tups u.frzs u.tbls (λB q=>by
  obtain⟨A,i,j,d,l⟩:=q;rw[k]at d;cases d;exact(_,i,j,g,l)) h t
theorem Inv.turned{t':Nat}(I:Inv X π σ H s)(k:∀b o,b≠a->s.heap.get? b=some o->h'.get? b=some o)(i:H a=none)(g:a≠X.env.locals)
  (y:a∈X.ex\/X.s₀.heap.objs.size<=a)(w:∀x c,X.env.cells.lookup x=some c->c≠a)(t:∀p∈X.pn++π,p.1≠a):Inv X π σ H { s with heap:=h',toks:=t' }:=by
 have f:∀b u,H b=some u->b≠a:=λb u e z=>by rw[z,i]at e;cases e
 refine I.step (g':=s.gens) (d':=s.drawn) (ch:=[a]) (λb l=>?_) (λb o _ _ d e _=>k b o (λz=>d (by simp[z])) e) (λb o _ _ d e _=>(o.slots,k b o (λz=>d (by simp[z])) e)) (λ_ _ _ _ n=>n)
  (λb o d e=>(o,k b o (λz=>d (by simp[z])) e)) (λ_ _ e=>e) (λ_ _ _ e=>e) (λb C e=>(#[],by rw[e];simp)) (λm j=>?_) (λb u e=>?_) I.bare
 ·have e:b=a:=by simpa using l
  subst e;exact(y,g,w,t)
 ·obtain⟨o,A,B,h,r⟩:=j;exact(o,A,B,k _ o (ae2 g) h,r)
 ·refine(I.hok b u e).stay (λc v d q=>k c v ?_ q) (λ_ q=>q) λ_ _ q=>q;rcases d with z|z
  ·rw[z];exact f b u e
  ·exact f c _ z
theorem Inv.tok(I:Inv X π σ H s)(t:Nat):Inv X π σ H { s with toks:=t }:=I.un (h':=s.heap) (t':=t) Un.refl I.hok
theorem Inv.kept{t':Nat}(I:Inv X π σ H s)(k:∀b u,s.heap.get? b=some u->h'.get? b=some u):Inv X π σ H { s with heap:=h',toks:=t' }:=I.un (Un.kept k) (I.hok.kept k)
theorem Inv.laid{a:Addr}{o:HO}{t':Nat}(I:Inv X π σ H s)(k:∀b u,s.heap.get? b=some u->h'.get? b=some u)(c:s.heap.objs.size<=a)(d:bB X.prog X.w (upd H a o) h' a o):
  Inv X π σ (upd H a o) { s with heap:=h',toks:=t' }:=I.un (Un.laid k c (I.hok.fresh c)) (I.hok.laid k c d)
theorem Inv.write{x e:Addr}{o:HO}{t':Nat}(I:Inv X π σ H s)(d:WD (H x))(f:e=x\/H e=some (.own x))(k:∀b u,b≠e->s.heap.get? b=some u->h'.get? b=some u)(a:∃u,h'.get? e=some u)
  (c:bB X.prog X.w (upd H x o) h' x o):Inv X π σ (upd H x o) { s with heap:=h',toks:=t' }:=I.un (Un.write d f k a) (I.hok.write d f k a c)
theorem Inv.pins_of{a:List (Addr×Obj)}(I:Inv X π σ H s)(h:∀p∈a,s.heap.get? p.1=some p.2/\H p.1=none/\p.1≠X.env.locals/\p.1∉X.fs /\ ∀v,p.2.data ≠ .cell v):Inv X a σ H s:=
 (I.ok,I.os,I.bare,I.base,I.loc,I.cell,I.free,I.freeC,λp b=>(abn.mp b).elim (λz=>I.pin p (afU _ z)) (h p),I.hok,I.len)
theorem Cu{N:List Str}(c:N.Nodup){i j:Nat}{x:Str}(a:N[i]?=some x)(b:N[j]?=some x):i=j:=by
 obtain⟨g,e⟩:=aab.mp a;obtain⟨f,d⟩:=aab.mp b;exact(List.getElem_inj c).mp (e.trans d.symm)
theorem mR{M:Model}{A:Around}{E:Value->Shared->Prop}{i:Nat}{x:Str}{v:V}{u:Value}{Q:Unit->Shared->Prop}(I:Inv X π σ H s)(hN:X.N.Nodup)(L:X.N[i]?=some x)(B:Loc X.env.scope x)(r:RelV v u)
  (h:∀s',Inv X π (σ.set i (some v)) H s'->(∃a,Heap.SameBut a s.heap s'.heap/\(a=X.env.locals\/X.env.cells.lookup x=some a))->Q () s')(hf:X.fn x=true\/X.env.scope.names.lookup x=some .local:=by first|exact .inl rfl|exact .inr rfl|assumption):wpAny M A (storeName X.env x u) Q E s:=by
 obtain⟨m,hn,hl⟩:=id I.loc;have T:(X.env.scope.kind == .class || (X.env.scope.kind == .module && X.env.locals != X.env.globals))=false:=by rw[I.ok.kind];rfl
 have Xm:i<σ.length:=by rw[I.len];exact(aab.mp L).1
 have V0:=I.V0;have l:∀{a:Addr}{h':Heap},(∃o,s.heap.get? a=some o/\H a=none)->Heap.SameBut a s.heap h'->Ti X.prog X.w H h':=λ{a h'} ha f b ob e=>by
  obtain⟨_,_,C⟩:=ha;refine(I.hok b ob e).stay (λc U t q=>(f.2 c ?_).trans q) (λ_ q=>q) λ_ _ q=>q;rintro rfl;rcases t with rfl|t
  ·rw[C]at e;cases e
  ·rw[C]at t;cases t
 rcases B with F|F
 ·refine wpAny_storeName_local F hn (λh' a1 f=>?_) T;obtain⟨oL,_,_,a0,_⟩:=id hn;refine h _ (I.ok,I.os,I.bare,(λb o e n J B=>?_,λb o e n J B=>?_,I.base.free,λb o e B=>?_,I.base.tups,I.base.frzs,I.base.tbls),(_,a1,λj y Z g D e3=>?_),λy c e=>?_,I.free,I.freeC,λp hp=>?_,l (oL,a0,I.free) f,by simpa using I.len) (_,f,.inl rfl)
  ·exact(f.2 b (aaq (aao (Heap.lt_size e) I.ok.above))).trans (I.base.keep b o e n J B)
  ·obtain⟨sl,g⟩:=I.base.slot b o e n J B;exact(sl,(f.2 b (aaq (aao (Heap.lt_size e) I.ok.above))).trans g)
  ·obtain⟨o',g⟩:=I.base.there b o e B;exact(o',(f.2 b (aaq (aao (Heap.lt_size e) I.ok.above))).trans g)
  ·by_cases G:j=i
   ·subst G;rw[L]at g;cases g;rw[agF Xm]at D;cases D;exact(u,r,.inl (F,by simp))
   ·rw[agT (ae2 G)]at D;obtain⟨u',r',q⟩:=hl j y Z g D e3;exists u',r';rcases q with ⟨k,e⟩|⟨k,c,e,z⟩
    ·refine .inl (k,?_);have:y≠x:=λe=>G (Cu hN g (e ▸ L));simp[this,e]
    ·exact .inr (k,c,e,z.sameBut f (V0 y c e))
  ·obtain⟨U,z⟩:=I.cell y c e;exact(U,z.sameBut f (V0 y c e))
  ·obtain⟨e,n,W,nf,d⟩:=I.pin p hp;exact((f.2 p.1 W).trans e,n,W,nf,d)
 ·have K:X.fn x=true:=by
   rcases hf with z|z
   ·exact z
   ·rw[z]at F;cases F
  obtain⟨c,t⟩:=I.ok.has x (.inl F);obtain⟨U,z⟩:=I.cell x c t;refine wpAny_storeName_cell I.ok.kind F t z (λh' R f=>?_);obtain⟨oc,O,S⟩:=id z;refine h { s with heap:=h' } (I.ok,I.os,I.bare,(λb o e n J B=>?_,λb o e n J B=>?_,I.base.free,λb o e B=>?_,I.base.tups,I.base.frzs,I.base.tbls),(m,hn.sameBut f (ae2 (V0 x c t)),λj y Z g D e3=>?_),λy Y e=>?_,I.free,I.freeC,λp hp=>?_,l (oc,O,I.freeC x c t) f,by simpa using I.len) (c,f,.inr t)
  ·exact(f.2 b (aaq (aao (Heap.lt_size e) (I.ok.cab x c K t)))).trans (I.base.keep b o e n J B)
  ·obtain⟨sl,g⟩:=I.base.slot b o e n J B;exact(sl,(f.2 b (aaq (aao (Heap.lt_size e) (I.ok.cab x c K t)))).trans g)
  ·obtain⟨o',g⟩:=I.base.there b o e B;exact(o',(f.2 b (aaq (aao (Heap.lt_size e) (I.ok.cab x c K t)))).trans g)
  ·by_cases G:j=i
   ·subst G;rw[L]at g;cases g;rw[agF Xm]at D;cases D;exact(u,r,.inr (.inl F,c,t,R))
   ·rw[agT (ae2 G)]at D;obtain⟨u',r',q⟩:=hl j y Z g D e3;exists u',r';rcases q with q|⟨k,Y,e,z'⟩
    ·exact .inl q
    ·refine .inr (k,Y,e,z'.sameBut f ?_);rintro rfl;exact G (Cu hN g (I.ok.inj _ _ _ e t ▸ L))
  ·by_cases P:Y=c
   ·subst P;exact(_,R)
   ·obtain⟨w2,z2⟩:=I.cell y Y e;exact(w2,z2.sameBut f P)
  ·obtain⟨e,n,W,nf,d⟩:=I.pin p hp;refine((f.2 p.1 ?_).trans e,n,W,nf,d);intro q;rw[q,O]at e;have q':oc=p.2:=aap e;exact d U (by rw[<-q'];exact S)
theorem v9{M:Model}{A:Around}{E:Value->Shared->Prop}{i:Nat}{x:Str}{v:V}{u:Value}{Q:Unit->Shared->Prop}(I:Inv X π σ H s)(e:X.N.Nodup)(c:X.N[i]?=some x)(b:Loc X.env.scope x)(r:RelV v u)
  (h:∀a,Inv X π (σ.set i (some v)) H a->Q () a)(d:X.fn x=true\/X.env.scope.names.lookup x=some .local:=by first|exact .inl rfl|exact .inr rfl|assumption):wpAny M A (storeName X.env x u) Q E s:=
 mR I e c b r (λa f _=>h a f) d
theorem Inv.call'{a:Shared}{ch:List Addr}(I:Inv X π σ H s)(i:a.os=s.os)(u:Un (frs X.stack) ch H H' s.heap a.heap)(d:Ti X.prog X.w H' a.heap)(j:AllBare a.gens)
  (f:∀b∈ch,(b∈X.ex\/X.s₀.heap.objs.size<=b)/\b≠X.env.locals/\(∀x c,X.env.cells.lookup x=some c->c≠b) /\ ∀p∈X.pn++π,p.1≠b):Inv X π σ H' a:=by
 obtain⟨h',k,l,g,h⟩:=a;have e:h=s.os:=i;subst e;exact I.call (g':=k) (t':=g) (d':=l) u d j f
end
abbrev XK:=Value->Option Addr->Hp->Prop
abbrev St:=List (Option V)
abbrev VK:=V->Hp->Prop
abbrev TE:=St->Hp->VK->Prop
abbrev TT:=St->Hp->(Bool->Hp->Prop)->Prop
abbrev TA:=St->Hp->(List V->Hp->Prop)->Prop
structure Ends where
 nx:St->Hp->Prop
 rt:VK
 bk:St->Hp->Prop:=λ_ _=>False
 ct:St->Hp->Prop:=λ_ _=>False
abbrev TS:=Ends->St->Hp->Prop
inductive EP(X:Cx)(π:List (Addr×Obj))(σ:St)(Q:VK)(u:Value)(s':Shared):Prop
 | mk (v H':_) (_:Inv X π σ H' s') (_:RelV v u) (_:Q v H')
def TP(X:Cx)(c:List (Addr×Obj))(σ:St)(Q:Bool->Hp->Prop)(b:Bool)(d:Shared):Prop:=∃a,Inv X c σ a d/\Q b a
inductive AP(X:Cx)(π:List (Addr×Obj))(σ:St)(Q:List V->Hp->Prop)(us:List Value)(s':Shared):Prop
 | mk (vs H':_) (_:Inv X π σ H' s') (_:Vals vs us) (_:Q vs H')
def SP(X:Cx)(c:List (Addr×Obj))(D:Ends)(f:Flow)(d:Shared):Prop:=
 match f with
 | .next=>∃a b,Inv X c a b d/\D.nx a b
 | .brk=>∃a b,Inv X c a b d/\D.bk a b
 | .cont=>∃a b,Inv X c a b d/\D.ct a b
 | .ret u=>∃v a b,Inv X c a b d/\RelV v u/\D.rt v b
def PE(X:Cx)(e:Expr)(t:TE):Prop:=
 ∀(b:List (Addr×Obj)) (s:Shared) (a:St) (H:Hp) (Q:VK),Inv X b a H s->t a H Q->wpAny (model X.prog X.w) X.A (eval e X.env) (EP X b a Q) X.xe s
def PT(X:Cx)(e:Expr)(t:TT):Prop:=
 ∀(b:List (Addr×Obj)) (s:Shared) (a:St) (H:Hp) (Q:Bool->Hp->Prop),Inv X b a H s->t a H Q->wpAny (model X.prog X.w) X.A (isTrue e X.env (eval e X.env)) (TP X b a Q) X.xe s
def PW(X:Cx)(e:Expr)(t:TT):Prop:=
 ∀(a:Sem Value) (c:List (Addr×Obj)) (s:Shared) (b:St) (H:Hp) (Q:Bool->Hp->Prop),Inv X c b H s->t b H Q->wpAny (model X.prog X.w) X.A (isTrue e X.env a) (TP X c b Q) X.xe s
theorem PW.pt{X:Cx}{e:Expr}{t:TT}(h:PW X e t):PT X e t:=h _
def PA(X:Cx)(c:List Expr)(t:TA):Prop:=
 ∀(pos:Pos) (b:List (Addr×Obj)) (s:Shared) (a:St) (H:Hp) (Q:List V->Hp->Prop),Inv X b a H s->t a H Q->wpAny (model X.prog X.w) X.A (spliced (backTo pos (starEach c X.env))) (AP X b a Q) X.xe s
def PS(X:Cx)(st:Stmt)(t:TS):Prop:=
 ∀(b:List (Addr×Obj)) (s:Shared) (a:St) (H:Hp) (D:Ends),Inv X b a H s->t D a H->wpAny (model X.prog X.w) X.A (exec st X.env) (SP X b D) X.xe s
def Ub(X:Cx)(st:List Stmt)(t:TS):Prop:=
 ∀(b:List (Addr×Obj)) (s:Shared) (a:St) (H:Hp) (D:Ends),Inv X b a H s->t D a H->wpAny (model X.prog X.w) X.A (execs st X.env) (SP X b D) X.xe s
theorem S5{t:Sem O}{Q b:O->Shared->Prop}{M:Model}{A:Around}{E:Value->Shared->Prop}{s:Shared}(h:wpAny M A t Q E s)(c:∀a s,Q a s->b a s):wpAny M A t b E s:=wpAny_mono h c λ_ _ x=>x
section
variable{X:Cx}
theorem bin{a b:Expr}{k j:TE}(t:PE X a k)(r:PE X b j){s:Shared}{σ:St}{H:Hp}{R:V->V->Hp->Prop}(I:Inv X π σ H s)(h:k σ H λx i=>j σ i λy c=>R x y c)
  {Q:O->Shared->Prop}{f:Value->Value->Sem O}
  (q:∀v u g x y c,Inv X π σ c g->RelV x v->RelV y u->R x y c->wpAny (model X.prog X.w) X.A (f v u) Q X.xe g):
  wpAny (model X.prog X.w) X.A (eval a X.env) (λv e=>wpAny (model X.prog X.w) X.A (eval b X.env) (λu d=>wpAny (model X.prog X.w) X.A (f v u) Q X.xe d) X.xe e) X.xe s:=by
 refine S5 (t π s σ H _ I h) λv l ⟨x,i,B,n,p⟩=>?_;refine S5 (r π l σ i _ B p) λu g ⟨y,c,z,m,o⟩=>?_;exact q v u g x y c z n m o
inductive Py(i:Nat)(σ:St)(H:Hp)(Q:VK):Prop
 | mk (v:_) (_:σ[i]?=some (some v)) (_:Q v H)
def tC(v:V):TE:=λ_ H Q=>Q v H
theorem Eh{i:Nat}{x:Str}{pos:Pos}(t:X.N[i]?=some x)(n:Xk X.env.scope x)(hd:(x == ("__debug__" : Str))=false:=by decide)(f:(x == ("__classdict__" : Str))=false:=by decide):PE X (.Name x pos) (Py i):=by
 intro k s j H Q I h;obtain⟨v,e,h⟩:=h;obtain⟨m,o,q⟩:=I.loc;obtain⟨u,r,l⟩:=q i x v t e n;have d:EP X k j Q u s:=(v,H,I,r,h);rcases l with ⟨b,p⟩|⟨b,c,g,a⟩
 ·exact wpAny_Name (wpAny_loadName_local I.ok.kind b o p d) hd
 ·rcases b with b|b
  ·exact wpAny_Name (wpAny_loadName_cell I.ok.kind b g a d) hd
  ·exact wpAny_Name (wpAny_loadName_free I.ok.kind b g a d f) hd
theorem ao{i j pos}:PE X (.Constant (.int i) j pos) (tC (.int i)):=λ_ _ _ H _ I h=>wpAny_Constant_int (.int i,H,I.tok _,(_,rfl),h)
theorem nq{b j pos}:PE X (.Constant (.bool b) j pos) (tC (.bl b)):=λ_ _ _ H _ I h=>Constant_bool (.bl b,H,I,rfl,h)
theorem dY{j pos}:PE X (.Constant .none j pos) (tC .non):=λ_ _ _ H _ I h=>Constant_none (.non,H,I,rfl,h)
theorem nC{x j pos}:PE X (.Constant (.str x) j pos) (tC (.str x)):=λ_ _ _ H _ I h=>Calls.Constant_str (.str x,H,I.tok _,(_,rfl),h)
def Gl(X:Cx)(x:Str):Prop:=X.env.kindOf x=some .globalImplicit
theorem yX{E:Value->Shared->Prop}{s:Shared}{σ:St}{H:Hp}{x:Str}{u:Value}{pos:Pos}{Q:Value->Shared->Prop}(I:Inv X π σ H s)(b:Gl X x)(a:X.mg x=some u)(h:Q u s)
  (hd:(x == ("__debug__" : Str))=false:=by decide):wpAny (model X.prog X.w) X.A (eval (.Name x pos) X.env) Q E s:=
 Calls.Name_function_global I.ok.kind b (Calls.loadGlobal_global (by rw[I.ok.glob];exact I.mod.glob.keeps I.bk) a h) hd
theorem dW{E:Value->Shared->Prop}{s:Shared}{σ:St}{H:Hp}{x:Str}{u:Value}{pos:Pos}{Q:Value->Shared->Prop}(I:Inv X π σ H s)(d:Gl X x)(c:X.mg x=none)(a:bootBuiltins x=some u)(h:Q u s)
  (b:x ≠ "__name__":=by decide)(hd:(x == ("__debug__" : Str))=false:=by decide):wpAny (model X.prog X.w) X.A (eval (.Name x pos) X.env) Q E s:=by
 obtain⟨g,f,e⟩:=I.mod.blt;exact Calls.Name_function_global I.ok.kind d (Calls.loadGlobal_builtin (by rw[I.ok.glob];exact I.mod.glob.keeps I.bk) c (by rw[I.ok.blt];exact f.keeps I.bk) ((e x b).trans a) h) hd
theorem bG{x:Str}{v:V}{u:Value}{pos:Pos}(b:Gl X x)(a:X.mg x=some u)(r:RelV v u)(hd:(x == ("__debug__" : Str))=false:=by decide):PE X (.Name x pos) (tC v):=
 λ_ _ _ H _ I h=>yX I b a (v,H,I,r,h) hd
theorem Gu{x:Str}{v:V}{u:Value}{pos:Pos}(d:Gl X x)(c:X.mg x=none)(a:bootBuiltins x=some u)(r:RelV v u)(b:x ≠ "__name__":=by decide)(hd:(x == ("__debug__" : Str))=false:=by decide):PE X (.Name x pos) (tC v):=
 λ_ _ _ H _ I h=>dW I d c a (v,H,I,r,h) b hd
variable{a:Expr}{ta tb:TE}{pos:Pos}
def PC(X:Cx)(g:CmpOp)(a b:Expr)(t:TE):Prop:=
 ∀(f:List (Addr×Obj)) (s:Shared) (e:St) (H:Hp) (Q:VK),Inv X f e H s->t e H Q ->
  wpAny (model X.prog X.w) X.A (eval a X.env) (λv d=>wpAny (model X.prog X.w) X.A (eval b X.env) (λu c=>wpAny (model X.prog X.w) X.A (compareOp g v u) (EP X f e Q) X.xe c) X.xe d) X.xe s
theorem Lp(b:Expr){c:CmpOp}(h:c ≠ .In)(d:c ≠ .NotIn):behindInMarks c b=false:=by
 have f:(c == CmpOp.In)=false:=by cases c <;> first|rfl|exact absurd rfl h
 have e:(c == CmpOp.NotIn)=false:=by cases c <;> first|rfl|exact absurd rfl d
 cases b <;> simp[behindInMarks,f,e]
def Nk(Q:VK):VK:=λx c=>Q (.bl (decide (x=.non))) c
def RW(ta:TE):TE:=λ c H Q=>ta c H (Nk Q)
def KN(Q:VK):VK:=λx c=>Q (.bl (!decide (x=.non))) c
def RK(ta:TE):TE:=λ c H Q=>ta c H (KN Q)
theorem RelV.none_iff{x:V}{v:Value}(r:RelV x v):(v == Value.none)=decide (x=.non):=by
 cases x with
 | non=>cases r;rfl
 | bl _=>cases r;rfl
 | int _=>obtain⟨t,rfl⟩:=r;rfl
 | str _=>obtain⟨t,rfl⟩:=r;rfl
 | U3 _=>obtain⟨t,rfl⟩:=r;rfl
 | flt _=>obtain⟨t,rfl⟩:=r;rfl
 | ref _=>cases r;rfl
 | ty _=>cases r;rfl
theorem oA{j pos'}(g:PE X a ta):PC X .Is a (.Constant .none j pos') (RW ta):=by
 intro d s c H Q I h;refine S5 (g d s c H _ I h) λv l ⟨x,k,i,e,f⟩=>?_;exact Constant_none (is_none_gen (.bl _,k,i,by rw[e.none_iff];rfl,f))
theorem ue{j pos'}(g:PE X a ta):PC X .IsNot a (.Constant .none j pos') (RK ta):=by
 intro d s c H Q I h;refine S5 (g d s c H _ I h) λv l ⟨x,k,i,e,f⟩=>?_;exact Constant_none (isnot_none_gen (.bl _,k,i,by rw[e.none_iff];rfl,f))
inductive R5(Q:Bool->Hp->Prop)(x:V)(H1:Hp):Prop
 | mk (c:_) (_:x=.bl c) (_:Q c H1)
def tB(t:TE):TT:=λ c H Q=>t c H (R5 Q)
theorem gB{e:CmpOp}{t:TE}(h:PC X e a b t)(f:behindInMarks e b=false:=by first|exact Lp _ (by decide) (by decide) | rfl):PT X (.Compare a [e] [b] pos) (tB t):=by
 intro i s g H Q I l;refine wpAny_isTrue_Compare1 (S5 (h i s g H _ I l) λv w f=>S5 f λu r m=>S5 m λc p ⟨x,o,n,j,k⟩=>?_) f;obtain⟨d,rfl,q⟩:=k;cases j;exact wpAny_truthy_bool (o,n,q)
theorem zO{e:Expr}{t:TE}(h:PE X e t)(l:∀c,isTrue e X.env c=(do let v <-c;standAt e.pos;holding [v] (truthy v)):=by intro _;rfl):PT X e (tB t):=by
 intro g s f H Q I k;refine isTrue_plain (S5 (h g s f H _ I k) λv o ⟨x,n,m,i,j⟩=>?_) (l _);obtain⟨d,rfl,q⟩:=j;cases i;exact wpAny_truthy_bool (n,m,q)
variable{tA WL:TT}{rest:List Expr}
def Su(t u:TT):TT:=λ d H Q=>t d H λc e=>if c=true then u d e Q else Q false e
def tOr(t u:TT):TT:=λ d H Q=>t d H λc e=>if c=true then Q true e else u d e Q
def R9(t:TT):TT:=λ d H Q=>t d H λc e=>Q (!c) e
theorem fZ(g:PT X a tA):PW X (.BoolOp .And [a] pos) tA:=by
 intro i f s d H Q I h;refine isTrue_and (S5 (g f s d H Q I h) λc j e=>?_);cases c with
 | true=>exact isTrue_and_nil e
 | false=>exact e
theorem kI(g:PT X a tA):PW X (.BoolOp .Or [a] pos) tA:=by
 intro i f s d H Q I h;refine isTrue_or (S5 (g f s d H Q I h) λc j e=>?_);cases c with
 | false=>exact isTrue_or_nil e
 | true=>exact e
theorem gw(m:PT X a tA)(l:PW X (.BoolOp .And (b::rest) pos) WL):PW X (.BoolOp .And (a::b::rest) pos) (Su tA WL):=by
 intro j e s d H Q I h;refine isTrue_and (S5 (m e s d H _ I h) λc k ⟨i,g,f⟩=>?_);cases c with
 | true=>exact l j e k d i Q g f
 | false=>exact(i,g,f)
theorem nu(m:PT X a tA)(l:PW X (.BoolOp .Or (b::rest) pos) WL):PW X (.BoolOp .Or (a::b::rest) pos) (tOr tA WL):=by
 intro j e s d H Q I h;refine isTrue_or (S5 (m e s d H _ I h) λc k ⟨i,g,f⟩=>?_);cases c with
 | true=>exact(i,g,f)
 | false=>exact l j e k d i Q g f
theorem nG(f:PT X a tA):PT X (.UnaryOp .Not a pos) (R9 tA):=by
 intro e s d H Q I h;exact isTrue_not (f e s d H (λc g=>Q (!c) g) I h)
inductive M9(tb:TE)(σ:St)(Q:VK)(x:V)(H1:Hp):Prop
 | mk (c:_) (_:x=.bl c) (_:if c=true then tb σ H1 Q else Q (.bl false) H1)
def RD(ta tb:TE):TE:=λ c H Q=>ta c H (M9 tb c Q)
inductive Nv(Q:VK)(x:V)(H1:Hp):Prop
 | mk (c:_) (_:x=.bl c) (_:Q (.bl (!c)) H1)
def Q3(ta:TE):TE:=λ c H Q=>ta c H (Nv Q)
theorem JB{op}{t:TE}(h:PE X a t):PE X (.BoolOp op [a] pos) t:=λ d s c H Q I e=>BoolOp_one (h d s c H Q I e)
theorem Ka(m:PE X a ta)(l:PE X (.BoolOp .And (b::rest) pos) tb):PE X (.BoolOp .And (a::b::rest) pos) (RD ta tb):=by
 intro f s e H Q I h;refine BoolOp_and (S5 (m f s e H _ I h) λv j ⟨x,i,g,k,d⟩=>?_);obtain⟨c,rfl,d⟩:=d;cases k;refine wpAny_truthy_bool ?_;cases c with
 | true=>exact l f j e i Q g d
 | false=>exact(.bl false,i,g,rfl,d)
theorem PN(i:PE X a ta):PE X (.UnaryOp .Not a pos) (Q3 ta):=by
 intro f s e H Q I h;refine UnaryOp_ (S5 (i f s e H _ I h) λv l ⟨x,k,j,g,d⟩=>?_);obtain⟨c,rfl,d⟩:=d;cases g;exact not_of (wpAny_truthy_bool (.bl (!c),k,j,rfl,d))
def tIf(t:TT)(ta tb:TE):TE:=λ d H Q=>t d H λc e=>if c=true then ta d e Q else tb d e Q
theorem Le{c:Expr}(l:PT X c tA)(n:PE X a ta)(m:PE X b tb):PE X (.IfExp c a b pos) (tIf tA ta tb):=by
 intro f s e H Q I h;refine wpAny_IfExp (S5 (l f s e H _ I h) λd g ⟨k,j,i⟩=>?_);cases d with
 | true=>exact n f g e k Q j i
 | false=>exact m f g e k Q j i
end
def My(K:PySem.W.Frag)(H:Hp)(a:Addr)(xs:List V):Prop:=
 Rd H a (.lst xs) \/
  ∃(o:Obj) (b:Array Value) (n:Nat),K.lookup a=some o/\o.cls=.type "list" /\ o.dict=none/\o.data=.seq b n/\b.size<=sizeLine/\Vals xs b.toList
def S7(K:PySem.W.Frag)(H:Hp)(a:Addr)(xs:List V):Prop:=
 Rd H a (.tup xs) \/
  ∃(o:Obj) (b:Array Value) (n:Nat),K.lookup a=some o/\o.cls=.type "tuple" /\ o.data=.seq b n/\b.size<=sizeLine/\Vals xs b.toList
def Sv:Value->Option V
 | .none=>some .non
 | .bool b=>some (.bl b)
 | .int i _=>some (.int i)
 | .str x _=>some (.str x)
 | .bytes b _=>some (.U3 b)
 | .float b _=>some (.flt b)
 | .ref a=>some (.ref a)
 | .type n=>some (.ty n)
 | _=>none
theorem RelV.abs{x:V}{u:Value}(r:RelV x u):Sv u=some x:=by
 cases x with
 | non=>cases r;rfl
 | bl _=>cases r;rfl
 | int _=>obtain⟨t,rfl⟩:=r;rfl
 | str _=>obtain⟨t,rfl⟩:=r;rfl
 | U3 _=>obtain⟨t,rfl⟩:=r;rfl
 | flt _=>obtain⟨t,rfl⟩:=r;rfl
 | ref _=>cases r;rfl
 | ty _=>cases r;rfl
theorem RelV.inj{x y:V}{u:Value}(r:RelV x u)(q:RelV y u):x=y:=aap (r.abs.symm.trans q.abs)
theorem Vals.inj:∀{xs ys:List V}{a:List Value},Vals xs a->Vals ys a->xs=ys
 | _,_,_,.nil,.nil=>rfl
 | _,_,_,.cons r t,.cons c b=>by rw[r.inj c,Vals.inj t b]
section
variable{X:Cx}{σ:St}{H:Hp}{xs ys:List V}
theorem My.of(h:H a=some (.lst xs)):My K H a xs:=.inl (.inl h)
theorem S7.of(h:H a=some (.tup xs)):S7 K H a xs:=.inl (.inl h)
theorem Inv.list(I:Inv X π σ H s)(h:My X.K H a xs):∃b:List Value,Vals xs b/\PlainL s.heap a b.toArray/\xs.length<=sizeLine:=by
 rcases h with h|⟨o,b,n,d,f,hd,c,g,r⟩
 ·obtain⟨z,b,n,r,e⟩:=h.ok I.hok;exact(b,r,(_,n,e,rfl,rfl,rfl),z)
 ·exists b.toList,r,(o,n,I.Ug a o d,f,hd,by simpa using c);have e:=r.length;simp only[aae]at e;lia
theorem Inv.tuple(I:Inv X π σ H s)(h:S7 X.K H a xs):∃b:List Value,Vals xs b/\IsTup s.heap a b.toArray/\xs.length<=sizeLine:=by
 rcases h with h|⟨o,b,n,d,f,c,g,r⟩
 ·obtain⟨z,b,r,p⟩:=h.ok I.hok;exact(b,r,p,z)
 ·exists b.toList,r,(o,I.Ug a o d,f,n,by simpa using c);have e:=r.length;simp only[aae]at e;lia
theorem Inv.list_inj(I:Inv X π σ H s)(h:My X.K H a xs)(h':My X.K H a ys):xs=ys:=by
 obtain⟨c,r,⟨o,n,e,_,_,d⟩,_⟩:=I.list h;obtain⟨b,i,⟨k,l,f,_,_,g⟩,_⟩:=I.list h';rw[e]at f;cases f;rw[d]at g;injection g with j _
 have:c=b:=by simpa using congrArg aiP j
 subst this;exact r.inj i
theorem Inv.tuple_inj(I:Inv X π σ H s)(h:S7 X.K H a xs)(h':S7 X.K H a ys):xs=ys:=by
 obtain⟨c,r,⟨o,e,_,n,d⟩,_⟩:=I.tuple h;obtain⟨b,i,⟨k,f,_,l,g⟩,_⟩:=I.tuple h';rw[e]at f;cases f;rw[d]at g;injection g with j _
 have:c=b:=by simpa using congrArg aiP j
 subst this;exact r.inj i
end
abbrev Cx.wish(X:Cx)(E:Value->Shared->Prop):Cx:={ X with xe:=E }
abbrev Cx.Wg(X:Cx):Cx:=X.wish λ_ _=>False
theorem Cx.Ok.wish{X:Cx}(a:X.Ok)(E:Value->Shared->Prop):(X.wish E).Ok:=
 (a.mod,a.kind,a.glob,a.blt,a.above,a.inj,a.has,a.cab,a.hd,a.frames,a.VR,a.exf,a.bs,a.U4,a.noex,a.exfs,a.funs,a.Vh)
theorem Cx.Ok.unwish{X:Cx}{E:Value->Shared->Prop}(a:(X.wish E).Ok):X.Ok:=
 (a.mod,a.kind,a.glob,a.blt,a.above,a.inj,a.has,a.cab,a.hd,a.frames,a.VR,a.exf,a.bs,a.U4,a.noex,a.exfs,a.funs,a.Vh)
section
variable{X:Cx}{σ:St}{H:Hp}
theorem Inv.wish(I:Inv X π σ H s)(E:Value->Shared->Prop):Inv (X.wish E) π σ H s:=(I.ok.wish E,I.os,I.bare,I.base,I.loc,I.cell,I.free,I.freeC,I.pin,I.hok,I.len)
theorem Inv.unwish(I:Inv (X.wish E) π σ H s):Inv X π σ H s:=(I.ok.unwish,I.os,I.bare,I.base,I.loc,I.cell,I.free,I.freeC,I.pin,I.hok,I.len)
theorem SP.unwish{D:Ends}{f:Flow}{c:Shared}(h:SP (X.wish E) π D f c):SP X π D f c:=by
 cases f with
 | next=>obtain⟨a,b,I,q⟩:=h;exact(a,b,I.unwish,q)
 | brk=>obtain⟨a,b,I,q⟩:=h;exact(a,b,I.unwish,q)
 | cont=>obtain⟨a,b,I,q⟩:=h;exact(a,b,I.unwish,q)
 | ret u=>obtain⟨v,a,b,I,r,q⟩:=h;exact(v,a,b,I.unwish,r,q)
theorem Ub.Wg{st:List Stmt}{t:TS}(h:Ub X.Wg st t):Ub X st t:=λ π s σ H D I a =>
 wpAny_mono (h π s σ H D (I.wish _) a) (λ_ _ q=>q.unwish) λ_ _ z=>False.elim z
end
section
variable{X:Cx}{rest:List Stmt}{t u:TS}{te:TE}{pos:Pos}
def Li:TS:=λD a H=>D.nx a H
def R7(t u:TS):TS:=λD a H=>t { D with nx:=u D } a H
theorem aL:Ub X [] Li:=λ_ _ a H _ I h=>wpAny_execs_nil (a,H,I,h)
theorem aj(i:PS X st t)(g:Ub X rest u):Ub X (st::rest) (R7 t u):=by
 intro b s c H D I h;refine wpAny_execs_cons (S5 (i b s c H { D with nx:=u D } I h) λf d q=>?_);cases f with
 | next =>
  obtain⟨a,k,j,q⟩:=q;exact g b d a k D j q
 | ret v=>exact q
 | brk=>exact q
 | cont=>exact q
theorem aq(c:PS X st t):Ub X [st] t:=by
 intro b s a H D I h;refine wpAny_execs_cons (S5 (c b s a H D I h) λf d q=>?_);cases f with
 | next=>exact wpAny_execs_nil q
 | ret v=>exact q
 | brk=>exact q
 | cont=>exact q
theorem Inv.quiet{σ:St}{H:Hp}{s:Shared}(I:Inv X π σ H s):interactive X.env=false:=by simp[interactive,I.ok.kind]
def J9(D:Ends)(σ:St):VK:=λ_ a=>D.nx σ a
def Rv(te:TE):TS:=λD a H=>te a H (J9 D a)
theorem bu(f:PE X e te)(d:swapsWith e none pos.line X.env=pure false:=by rfl):PS X (.Expr e pos) (Rv te):=by
 intro b s a H D I h;exact wpAny_Expr_any (S5 (f b s a H _ I h) λv j ⟨x,i,g,k,c⟩=>(a,i,g,c)) I.quiet d
def RV(te:TE):TS:=λD a H=>te a H D.rt
theorem aD(f:PE X e te):PS X (.Return (some e) pos) (RV te):=by
 intro b s a H D I h;exact wpAny_Return_some (S5 (f b s a H _ I h) λv j ⟨x,i,g,c,d⟩=>(x,a,i,g,c,d))
def Sh(c:TT)(t u:TS):TS:=λD a H=>c a H λb d=>if b=true then t D a d else u D a d
theorem aX{c:Expr}{a b:List Stmt}{i:TT}(n:PT X c i)(p:Ub X a t)(o:Ub X b u):PS X (.If c a b pos) (Sh i t u):=by
 intro g s f H D I h;refine wpAny_If (S5 (n g s f H _ I h) λd j ⟨m,l,k⟩=>?_);cases d with
 | true=>exact p g j f m D l k
 | false=>exact o g j f m D l k
def Qn:TS:=λ_ _ _=>False
theorem bW:PS X st Qn:=λ_ _ _ _ _ _ h=>h.elim
end
abbrev TG:=V->St->Hp->(St->Hp->Prop)->Prop
abbrev Wh:=List V->St->Hp->(St->Hp->Prop)->Prop
def PG(X:Cx)(a:Expr)(t:TG):Prop:=
 ∀(d:List (Addr×Obj)) (s:Shared) (c:St) (H:Hp) (v:V) (u:Value) (Q:St->Hp->Prop),Inv X d c H s->RelV v u->t v c H Q ->
  wpAny (model X.prog X.w) X.A (assign a X.env u) (λ_ f=>∃b e,Inv X d b e f/\Q b e) X.xe s
def Xn(X:Cx)(g:List Expr)(t:Wh):Prop:=
 ∀(c:List (Addr×Obj)) (s:Shared) (b:St) (H:Hp) (d:List V) (e:List Value) (Q:St->Hp->Prop),Inv X c b H s->Vals d e->t d b H Q ->
  wpAny (model X.prog X.w) X.A (assignInOrder ((assignEach g X.env).map (·.2)) e) (λ_ h=>∃a f,Inv X c a f h/\Q a f) X.xe s
abbrev KQ:=V->V->V->Hp->(Hp->Prop)->Prop
def Ry(X:Cx)(t:KQ):Prop:=
 ∀(b:List (Addr×Obj)) (s:Shared) (a:St) (H:Hp) (o i v:V) (c d u:Value) (Q:Hp->Prop),Inv X b a H s->RelV o c->RelV i d->RelV v u->t o i v H Q ->
  wpAny (model X.prog X.w) X.A (setItem c d u) (λ_ f=>∃e,Inv X b a e f/\Q e) X.xe s
section
variable{X:Cx}{pos:Pos}
def fJ(i:Nat):TG:=λv a H Q=>Q (a.set i (some v)) H
theorem mK{i:Nat}{x:Str}(d:X.N.Nodup)(b:X.N[i]?=some x)(a:Loc X.env.scope x)(c:X.fn x=true\/X.env.scope.names.lookup x=some .local:=by first|exact .inl rfl|exact .inr rfl|assumption):PG X (.Name x pos) (fJ i):=by
 intro g s f H v u Q I r h;exact wpAny_assign_Name (v9 I d b a r (λj e=>(_,H,e,h)) c)
theorem aR{x:Str}(i:Nat)(d:X.N.Nodup)(b:X.N[i]?=some x:=by rfl)(a:Loc X.env.scope x:=by exact agG rfl)(c:X.fn x=true\/X.env.scope.names.lookup x=some .local:=by first|exact .inl rfl|exact .inr rfl|assumption):PG X (.Name x pos) (fJ i):=mK d b a c
def Rp:Wh:=λb a H Q=>b=[]/\Q a H
inductive JH(t:TG)(u:Wh)(vs:List V)(σ:St)(H:Hp)(Q:St->Hp->Prop):Prop
 | mk (v r:_) (_:vs=v::r) (_:t v σ H λ σ' H'=>u r σ' H' Q)
theorem ji:Xn X [] Rp:=by
 intro b s a H c d Q I r h;obtain⟨e,h⟩:=h;subst e;cases r;exact assignInOrder_nil (a,H,I,h)
theorem bV{e:Expr}{t:TG}{u:Wh}(l:PG X e t)(k:Xn X v u)
  (j:(assignEach (e::v) X.env).map (·.2)=assign e X.env::(assignEach v X.env).map (·.2):=by rfl):Xn X (e::v) (JH t u):=by
 intro c s d H p w Q I r h;obtain⟨a,q,m,h⟩:=h;subst m;cases r with
 | cons r g =>
  rw[j];refine assignInOrder_cons (S5 (l c s d H _ _ _ I r h) λ_ f ⟨b,o,n,i⟩=>?_);exact k c f b o _ _ Q n g i
inductive Rh(K:PySem.W.Frag)(n:Nat)(t:Wh)(v:V)(σ:St)(H:Hp)(Q:St->Hp->Prop):Prop
 | mk (a xs:_) (_:v=.ref a) (_:S7 K H a xs) (_:xs.length=n) (_:t xs σ H Q)
theorem lr{k:Nat}{t:Wh}{n:Nat}(x:X.calm=true)(h:Xn X v t)
  (q:(assignEach v X.env).length=n:=by rfl)(f:(assignEach v X.env).findIdx? (·.1)=none:=by rfl):PG X (.Tuple v k pos) (Rh X.K n t):=by
 intro i s g H c u Q I r d;obtain⟨a,l,z,p,w,d⟩:=d;subst z;cases r;obtain⟨B,j,ht,C⟩:=I.tuple p;refine assign_Tuple_tuple (I.ok.hd x) ht (by simp[q,<-w,j.length]) f λy m=>?_;have A:Inv X i g H { s with heap:=y }:=I.kept (t':=s.toks) λb o e=>m b o (aaq (Heap.lt_size e)) e;exact h i _ g H l _ Q A (by simpa using j) d
def Nj(t:KQ)(v:V)(σ:St)(Q:St->Hp->Prop)(o:V):VK:=λi a=>t o i v a (Q σ)
def Nz(a:TE)(t:KQ)(v:V)(σ:St)(Q:St->Hp->Prop):VK:=λo b=>a σ b (Nj t v σ Q o)
def Sq(b c:TE)(t:KQ):TG:=λv a H Q=>b a H (Nz c t v a Q)
theorem Qk{o i:Expr}{e f:TE}{t:KQ}(w:PE X o e)(z:PE X i f)(q:Ry X t)
  (A:∀v,assign (.Subscript o i pos) X.env v=(do
   let a <-holding [v] (eval o X.env)
   let b <-holding [v,a] (eval i X.env)
   standAt pos
   holding [v,a,b] (setItem a b v)
   release [v,a,b] []):=by intro _;rfl):PG X (.Subscript o i pos) (Sq e f t):=by
 intro d s c H v u Q I r h;rw[A];refine wpAny_bind (wpAny_holding (S5 (w d s c H _ I h) λa j ⟨x,G,D,l,p⟩=>?_));refine wpAny_bind (wpAny_holding (S5 (z d j c G _ D p) λb g ⟨y,F,C,k,n⟩=>?_));refine wpAny_bind (wpAny_standAt (wpAny_bind (wpAny_holding (S5 (q d g c F x y v a b u _ C l k r n) λ_ J ⟨E,B,m⟩=>?_))));exact wpAny_release (c,E,B,m)
def M7(g:TG)(D:Ends)(σ:St):VK:=λx a=>g x σ a D.nx
def HB(b:TE)(g:TG):TS:=λD a H=>b a H (M7 g D a)
theorem KY{e:Expr}{c:TE}{g:TG}(m:PE X e c)(l:PG X o g)(k:swapsWithSole [o] e pos.line X.env=pure false:=by rfl)(j:swappedStores [o] e X.env=pure none:=by rfl)
  (n:(assignEach [o] X.env).map (·.2)=[assign o X.env]:=by rfl):PS X (.Assign [o] e pos) (HB c g):=by
 intro b s a H D I h;refine wpAny_Assign_stores (S5 (m b s a H _ I h) λv d ⟨x,r,p,f,i⟩=>?_) k j;rw[n];exact S5 (l b d a r x v _ p f i) λ_ t q=>q
theorem q9{i:Nat}{x:Str}{e:Expr}{a:TE}(n:X.N.Nodup)(k:X.N[i]?=some x)(g:Loc X.env.scope x)(m:PE X e a)(j:swapsWith e (some (.Name x p)) pos.line X.env=pure false:=by rfl)(l:X.fn x=true\/X.env.scope.names.lookup x=some .local:=by first|exact .inl rfl|exact .inr rfl|assumption):
  PS X (.Assign [.Name x p] e pos) (HB a (fJ i)):=by
 intro c s b H D I h;refine wpAny_Assign_Name (S5 (m c s b H _ I h) λv u ⟨y,r,q,d,f⟩=>?_) j;exact v9 q n k g d (λt o=>(_,r,o,f)) l
theorem aA{x:Str}{e:Expr}{a:TE}(i:Nat)(h:X.N.Nodup)(g:PE X e a)(d:X.N[i]?=some x:=by rfl)(b:Loc X.env.scope x:=by exact agG rfl)(c:swapsWith e (some (.Name x p)) pos.line X.env=pure false:=by rfl)(f:X.fn x=true\/X.env.scope.names.lookup x=some .local:=by first|exact .inl rfl|exact .inr rfl|assumption):
  PS X (.Assign [.Name x p] e pos) (HB a (fJ i)):=q9 h d b g c f
end
section
variable{X:Cx}{pos:Pos}
def PB(c:TT)(h:TS):TS:=λD a H=>∃W:Nat->St->Hp->Prop,(∃m,W m a H) /\ ∀m a H,W m a H ->
 c a H λb f=>if b=true then ∃N:St->Hp->Prop,(∀d g,N d g -> ∃e,e<m/\W e d g)/\h { D with nx:=N,ct:=N,bk:=D.nx } a f else D.nx a f
theorem mD{c:Expr}{e:List Stmt}{u:TT}{x:TS}(y:PassesOwn (model X.prog X.w) X.A X.env X.xe)(Q:PT X c u)(R:Ub X e x):PS X (.While c e [] pos) (PB u x):=by
 intro m s G H D I h;obtain⟨W,⟨P,K⟩,j⟩:=h;refine wpAny_While (codeAny_whileLoop (λn O=>∃i F,Inv X m i F O/\W n i F) ?_ P (G,H,I,K));rintro n M ⟨d,E,S,J⟩;refine wpAny_passesOwn y (S5 (Q m M d E _ S (j n d E J)) λb L ⟨C,B,l⟩=>?_);cases b with
 | true =>
  obtain⟨N,z,l⟩:=l;rw[if_pos rfl];refine wpAny_passesOwn y (S5 (R m L d C _ B l) λf T k=>?_);cases f with
  | next =>
   obtain⟨a,g,t,p⟩:=k;obtain⟨q,r,o⟩:=z a g p;exact(q,r,a,g,t,o)
  | cont =>
   obtain⟨a,g,t,p⟩:=k;obtain⟨q,r,o⟩:=z a g p;exact(q,r,a,g,t,o)
  | brk=>exact k
  | ret v=>exact k
 | false =>
  rw[if_neg aar];exact wpAny_execs_nil (d,C,B,l)
end
structure It where
 go:Nat->Hp->Prop
 Uv:Nat->Hp->V->Hp->Prop
 stop:Nat->Hp->Prop
def gK(X:Cx)(a:List (Addr×Obj))(H:Hp)(b:Addr):Prop:=
 H b=none/\b≠X.env.locals/\b∉X.fs/\(b∈X.ex\/X.s₀.heap.objs.size<=b)/\(∀x c,X.env.cells.lookup x=some c->c≠b) /\ ∀p∈X.pn++a,p.1≠b
theorem Inv.fpOk{X:Cx}{σ:St}{H H':Hp}{s:Shared}{b:Addr}(I:Inv X π σ H s)(a:s.heap.objs.size<=b)(f:H' b=none):gK X π H' b:=by
 refine(f,agZ (aao I.lt a),I.nofs a,.inr (adh I.sz a),λx c e z=>?_,λp d z=>?_)
 ·obtain⟨v,q⟩:=I.cell x c e;exact absurd (aao q.lt (by rw[z];exact a)) (adK _)
 ·exact absurd (aao (Heap.lt_size (I.pin p d).1) (by rw[z];exact a)) (adK _)
structure Turn(P:Program)(w:World)(K:PySem.W.Frag)(tg:Expr)(J:It)(fp:List Addr)(it:Addr)(tn:Nat->Heap->Prop):Prop where
 mem:it∈fp
 obj:∀i h,tn i h -> ∀b∈fp,∃o,h.get? b=some o /\ ∀v,o.data ≠ .cell v
 keep:∀i h h',tn i h->(∀b∈fp,∀o,h.get? b=some o->h'.get? b=some o)->tn i h'
 item:∀(X:Cx),X.prog=P->X.w=w->X.K=K->X.calm=true -> ∀(i:Nat) (π:List (Addr×Obj)) (s:Shared) (σ:St) (H:Hp) (E:Value->Shared->Prop),Inv X π σ H s->(∀b∈fp,gK X π H b)->tn i s.heap->J.go i H ->
  wpAny (model P w) X.A (pyNext (.ref it)) (λr s1=>∃u,r=some u /\
   wpAny (model P w) X.A (letOwnedTupleGo tg (.ref it) u) (λ_ s2=>∃x H',Inv X π σ H' s2/\RelV x u/\J.Uv i H x H'/\tn (i+1) s2.heap /\ ∀b∈fp,H' b=none) E s1) E s
 done:∀(X:Cx),X.prog=P->X.w=w->X.K=K->X.calm=true -> ∀(i:Nat) (π:List (Addr×Obj)) (s:Shared) (σ:St) (H:Hp) (E:Value->Shared->Prop),Inv X π σ H s->(∀b∈fp,gK X π H b)->tn i s.heap->J.stop i H ->
  wpAny (model P w) X.A (pyNext (.ref it)) (λr s1=>r=none/\Inv X π σ H s1) E s
 self:∀(A:Around) (i:Nat) (s:Shared) (Q:Value->Shared->Prop) (E:Value->Shared->Prop),tn i s.heap->Q (.ref it) s->wpAny (model P w) A (pyIter (.ref it)) Q E s
abbrev TI:=St->Hp->(It->Hp->Prop)->Prop
inductive PIE(X:Cx)(π:List (Addr×Obj))(σ:St)(tg:Expr)(R:It->Hp->Prop)(itv:Value)(s2:Shared):Prop
 | mk (it:Addr) (fp:List Addr) (tn:Nat->Heap->Prop) (J:It) (H':Hp) (_:itv=.ref it) (_:Inv X π σ H' s2) (_:Turn X.prog X.w X.K tg J fp it tn) (_:tn 0 s2.heap) (_:(∀b∈fp,gK X π H' b)) (_:R J H')
def PI(X:Cx)(d iter:Expr)(c:TI):Prop:=
 ∀(b:List (Addr×Obj)) (s:Shared) (a:St) (H:Hp) (R:It->Hp->Prop),Inv X b a H s->c a H R ->
  wpAny (model X.prog X.w) X.A (eval iter X.env) (λv e=>wpAny (model X.prog X.w) X.A (pyIter v) (PIE X b a d R) X.xe e) X.xe s
theorem vN{M:Model}{A:Around}{E:Value->Shared->Prop}{s:Shared}{u:Value}{o:Obj}{n:String}{Q:Unit->Shared->Prop}(c:s.heap.get? a=some o)(f:o.cls=.type n)(hd:o.data=.fields I)
    (d:["enumerate","zip","dict_itemiterator","dict_reverseitemiterator","odict_iterator","itertools.zip_longest","itertools.pairwise"].contains n=false)(b:Q () s):wpAny M A (letOwnedTupleGo e (.ref a) u) Q E s:=by
  unfold letOwnedTupleGo;cases e <;> first
    | exact wpAny_pure b
    | (cases u <;> first
        | exact wpAny_pure b
        | (refine wpAny_bind (wpAny_load c ?_)
           rw[f,hd]
           show wpAny M A (if (["enumerate","zip","dict_itemiterator","dict_reverseitemiterator","odict_iterator","itertools.zip_longest","itertools.pairwise"].contains n && I[0]? == some (rawInt _))=true then _ else _) Q E s
           rw[if_neg (by intro h;rw[d,aiH]at h;cases h)];exact wpAny_pure b))
def Vx(K:PySem.W.Frag)(a:Addr):It:=
 (λi H=>∃b x,My K H a b/\b[i]?=some x,λi H x c=>c=H /\ ∀b,My K H a b->b[i]?=some x,λi H=>∃b,My K H a b/\b.length<=i)
def WM(K:PySem.W.Frag)(a:Addr):It:=
 (λi H=>∃b x,S7 K H a b/\b[i]?=some x,λi H x c=>c=H /\ ∀b,S7 K H a b->b[i]?=some x,λi H=>∃b,S7 K H a b/\b.length<=i)
def Vi(lo:Int)(n:Nat):It:=(λi _=>i<n,λi H x a=>a=H/\x=.int (lo+i),λi _=>n<=i)
theorem Hs{P:Program}{w:World}(a j:Addr):Turn P w K e (Vx K a) [j] j (λi h=>h.IsListIter j a i) where
 mem:=by simp
 obj:=λi h g b l=>by
  have f:b=j:=by simpa using l
  subst f;obtain⟨o,f,c,d⟩:=g;exact(o,f,λv z=>by rw[d]at z;cases z)
 keep:=λi h r g k=>g.at λo f=>k j (by simp) o f
 item:=by
  intro X C A D R i Q s O H E I q g B;subst C A D;obtain⟨S,x,n,y⟩:=B;obtain⟨N,t,p,V⟩:=I.list n;obtain⟨u,Z,U⟩:=t.get y;obtain⟨M,L,f2,J,G,F⟩:=q j (by simp);refine wpAny_pyNext_list_item g p.isList (x:=u) (by simpa using Z) λr m T=>?_;have I1:Inv X Q O H { s with heap:=r }:=I.turned (t':=s.toks) (λb o l f=>(T.2 b l).trans f) M L J G F;obtain⟨o,f,c,d⟩:=id m;exact(u,rfl,vN (s:={ s with heap:=r }) f c d (by decide) (x,H,I1,U,(rfl,λys Y=>by rw[I.list_inj Y n];exact y),m,λb l=>(q b l).1))
 done:=by
  intro X C A D R i Q s O H E I q g B;subst C A D;obtain⟨S,n,y⟩:=B;obtain⟨N,t,p,V⟩:=I.list n;obtain⟨M,L,f2,J,G,F⟩:=q j (by simp);have hl:=t.length;exact wpAny_pyNext_list_end (I.ok.hd R) g p.isList (by simp;lia) λr eb=>(rfl,I.turned (t':=s.toks) (λb o l f=>eb b o l f) M L J G F)
 self:=λ_ _ _ _ _ g h=>wpAny_pyIter_listiter g h
theorem FT{P:Program}{w:World}(a j:Addr):Turn P w K e (WM K a) [j] j (λi h=>h.IsTupleIter j a i) where
 mem:=by simp
 obj:=λi h g b l=>by
  have f:b=j:=by simpa using l
  subst f;obtain⟨o,f,c,d⟩:=g;exact(o,f,λv z=>by rw[d]at z;cases z)
 keep:=λi h t g k=>g.at λo f=>k j (by simp) o f
 item:=by
  intro X D B F R i Q s O H E I r g C;subst D B F;obtain⟨S,x,q,A⟩:=C;obtain⟨m,y,p,V⟩:=I.tuple q;obtain⟨u,Z,U⟩:=y.get A;obtain⟨N,M,f2,L,J,G⟩:=r j (by simp);refine wpAny_pyNext_tuple_item g (show s.heap.IsTuple a m.toArray from p) (x:=u) (by simpa using Z) λt n T=>?_;have I1:Inv X Q O H { s with heap:=t }:=I.turned (t':=s.toks) (λb o l f=>(T.2 b l).trans f) N M L J G;obtain⟨o,f,c,d⟩:=id n;exact(u,rfl,vN (s:={ s with heap:=t }) f c d (by decide) (x,H,I1,U,(rfl,λys Y=>by rw[I.tuple_inj Y q];exact A),n,λb l=>(r b l).1))
 done:=by
  intro X D B F R i Q s O H E I r g C;subst D B F;obtain⟨S,q,A⟩:=C;obtain⟨m,y,p,V⟩:=I.tuple q;obtain⟨N,M,f2,L,J,G⟩:=r j (by simp);have hl:=y.length;exact wpAny_pyNext_tuple_end (I.ok.hd R) g (show s.heap.IsTuple a m.toArray from p) (by simp;lia) λt eb=>(rfl,I.turned (t':=s.toks) (λb o l f=>eb b o l f) N M L J G)
 self:=λ_ _ _ _ _ g h=>wpAny_pyIter_tupleiter g h
theorem Dq{P:Program}{w:World}(d:Addr)(lo:Int)(n:Nat):Turn P w K e (Vi lo n) [d] d (λi h=>IsRangeIter h d (lo+(i:Nat)*1) ((n:Int) - (i:Nat)) 1) where
 mem:=by simp
 obj:=λi h c b f=>by
  have a:b=d:=by simpa using f
  subst a;exact(_,c,λv z=>by
   have J:Data.fields _=Data.cell v:=z;cases J)
 keep:=λi h l c k=>k d (by simp) _ c
 item:=by
  intro X r m u q i F s D H E I j c p;subst r m u;obtain⟨C,B,N,A,y,x⟩:=j d (by simp);have W:=Walks.range (prog:=X.prog) (w:=X.w) (I.ok.hd q) d lo 1 n;refine W.item i s _ _ p c λv l G M g L=>?_;obtain⟨t,rfl⟩:=M;have Q:Inv X F D H { s with heap:=l,toks:=G }:=I.turned (λb o f a=>L b o (by simpa using f) a) C B A y x
  refine(_,rfl,vN (s:={ s with heap:=l,toks:=G }) (n := "range_iterator") g rfl rfl (by decide) (.int (lo+i),H,Q,(t,?_),(rfl,rfl),g,λb f=>(j b f).1))
  rw[Int.mul_one]
 done:=by
  intro X r m u q i F s D H E I j c p;subst r m u;obtain⟨C,B,N,A,y,x⟩:=j d (by simp);exact wpAny_pyNext_range_end (I.ok.hd q) c (by have:n<=i:=p;lia) λl O=>(rfl,I.turned (t':=s.toks) (λb o f a=>O b o f a) C B A y x)
 self:=λ_ _ _ _ _ c h=>wpAny_pyIter_rangeiter c h
section
variable{X:Cx}
inductive Ot(K:PySem.W.Frag)(R:It->Hp->Prop)(x:V)(H1:Hp):Prop
 | mk (a:_) (_:x=.ref a) (_:(∃xs,My K H1 a xs)) (_:R (Vx K a) H1)
def RJ(K:PySem.W.Frag)(b:TE):TI:=λ a H R=>b a H (Ot K R)
inductive Qe(K:PySem.W.Frag)(R:It->Hp->Prop)(x:V)(H1:Hp):Prop
 | mk (a:_) (_:x=.ref a) (_:(∃xs,S7 K H1 a xs)) (_:R (WM K a) H1)
def RZ(K:PySem.W.Frag)(b:TE):TI:=λ a H R=>b a H (Qe K R)
theorem bO{l:Expr}{f:TE}(n:PE X l f):PI X tg l (RJ X.K f):=by
 intro i s g H R I h;refine S5 (n i s g H _ I h) λv c ⟨x,t,d,j,k⟩=>?_;obtain⟨a,e,⟨w,m⟩,q⟩:=k;subst e;cases j;obtain⟨u,y,p,z⟩:=d.list m;refine wpAny_pyIter_list p.isList ?_;refine(c.heap.objs.size,[c.heap.objs.size],_,_,t,rfl,d.kept (t':=c.toks) λb o e=>Heap.get?_push_of_some _ e,Hs a _,(_,Heap.get?_push_size _ rfl,rfl,rfl),λb r=>?_,q);have e:b=c.heap.objs.size:=by simpa using r
 subst e;exact d.fpOk (aac _) (d.hok.fresh (aac _))
theorem Qt{l:Expr}{g:TE}(r:PE X l g):PI X tg l (RZ X.K g):=by
 intro j s i H R I h;refine S5 (r j s i H _ I h) λv c ⟨x,u,d,k,m⟩=>?_;obtain⟨a,e,⟨w,n⟩,q⟩:=m;subst e;cases k;obtain⟨f,y,p,z⟩:=d.tuple n;refine wpAny_pyIter_tuple (show c.heap.IsTuple a f.toArray from p) ?_;refine(c.heap.objs.size,[c.heap.objs.size],_,_,u,rfl,d.kept (t':=c.toks) λb o e=>Heap.get?_push_of_some _ e,FT a _,(_,Heap.get?_push_size _ rfl,rfl,rfl),λb t=>?_,q);have e:b=c.heap.objs.size:=by simpa using t
 subst e;exact d.fpOk (aac _) (d.hok.fresh (aac _))
theorem Bx{σ:St}{H:Hp}{s:Shared}{R:It->Hp->Prop}{E:Value->Shared->Prop}{lo :Int}{t u v:Tok}{tk:Nat}(I:Inv X π σ H s)(h : -(2^62)<=lo)(g:lo<2^62)(f : -(2^62)<=m)(d:m<2^62)
  (q:R (Vi lo (m - lo).toNat) H):wpAny (model X.prog X.w) X.A (pyIter (.ref s.heap.objs.size)) (PIE X π σ tg R) E { s with heap:=s.heap.push { cls:=.type "range",data:=.fields #[.int lo t,.int m u,.int 1 v] },toks:=tk }:=by
 refine wpAny_pyIter_range (IsRange.new ..) (small_one h g f d) ?_
 have a:Inv X π σ H { s with heap:=s.heap.push { cls:=.type "range",data:=.fields #[.int lo t,.int m u,.int 1 v] },toks:=tk }:=I.kept λb o e=>Heap.get?_push_of_some _ e
 refine((s.heap.push { cls:=.type "range",data:=.fields #[.int lo t,.int m u,.int 1 v] }).objs.size,[(s.heap.push { cls:=.type "range",data:=.fields #[.int lo t,.int m u,.int 1 v] }).objs.size],_,_,H,rfl,
  a.kept (t':=tk) λb o e=>Heap.get?_push_of_some _ e,Dq _ lo (m - lo).toNat,?_,λb c=>?_,q)
 ·have j:lo+((0:Nat):Int)*1=lo:=by simp
  have i:(((m - lo).toNat:Nat):Int) - ((0:Nat):Int)=Builtin.Range.rangeSize lo m 1:=by rw[rangeSize_one];split <;> lia
  show IsRangeIter _ _ (lo+((0:Nat):Int)*1) ((((m - lo).toNat:Nat):Int) - ((0:Nat):Int)) 1;rw[j,i];exact Heap.get?_push_size _ rfl
 ·have e:b=(s.heap.push { cls:=.type "range",data:=.fields #[.int lo t,.int m u,.int 1 v] }).objs.size:=by simpa using c
  subst e;exact a.fpOk (aac _) (a.hok.fresh (aac _))
inductive NT(R:It->Hp->Prop)(vs:List V)(H1:Hp):Prop
 | mk (j:Int) (_:vs=[.int j]) (_ : -(2^62)<=j) (_:j<2^62) (_:R (Vi 0 j.toNat) H1)
def Ri(b:TA):TI:=λ a H R=>b a H (NT R)
inductive Mt(R:It->Hp->Prop)(vs:List V)(H1:Hp):Prop
 | mk (i j:Int) (_:vs=[.int i,.int j]) (_:(-(2^62)<=i/\i<2^62 /\ -(2^62)<=j/\j<2^62)) (_:R (Vi i (j - i).toNat) H1)
def Rm(b:TA):TI:=λ a H R=>b a H (Mt R)
theorem qU{a:Expr}{c:TA}{p pos:Pos}(n:Gl X "range")(m:X.mg "range" = none)(o:PA X [a] c)(l:starEach [a] X.env=[(pq false (eval a X.env))]:=by rfl):PI X tg (.Call (.Name "range" p) [a] [] pos) (Ri c):=by
 intro f s d H R I h;refine Call_ (dW I n m boot_range (PyProof.Rows.callWith_type1 (S5 (o pos f s d H _ I h) λw x ⟨v,y,u,i,b⟩=>?_) l rfl));obtain⟨j,e,b,k,q⟩:=b;subst e;cases i with
 | cons r g =>
  cases g;obtain⟨t,rfl⟩:=r;exact call_range_1 (Bx u (by lia) (by lia) b k (by simpa using q))
theorem Jk{a b:Expr}{g:TA}{p pos:Pos}(y:Gl X "range")(x:X.mg "range" = none)(z:PA X [a,b] g)(w:starEach [a,b] X.env=[(pq false (eval a X.env)),(pq false (eval b X.env))]:=by rfl)(c:starEach [b] X.env=[(pq false (eval b X.env))]:=by rfl):
  PI X tg (.Call (.Name "range" p) [a,b] [] pos) (Rm g):=by
 intro l s k H R I h;refine Call_ (dW I y x boot_range (PyProof.Rows.callWith_type1 (S5 (z pos l s k H _ I h) λC E ⟨B,F,A,m,f⟩=>?_) (by rw[w,c]) (by rw[c];rfl)));obtain⟨i,j,e,⟨f,v,u,o⟩,q⟩:=f;subst e;cases m with
 | cons r d =>
  cases d with
  | cons n d =>
   cases d;obtain⟨t,rfl⟩:=r;obtain⟨D,rfl⟩:=n;exact call_range_2 (Bx A f v u o q)
def N7(g:TG)(e:TS)(D:Ends)(σ:St)(H:Hp):It->Hp->Prop:=λJ h=>∃W:Nat->Nat->St->Hp->Prop,(∃m,W 0 m σ h) /\ ∀i m σ H,W i m σ H->(J.stop i H/\D.nx σ H)\/(J.go i H /\ ∃N:St->Hp->Prop,(∀b a,N b a -> ∃d,d<m/\W (i+1) d b a) /\ ∀x a,J.Uv i H x a->g x σ a λ c f=>e { D with nx:=N,ct:=N,bk:=D.nx } c f)
def R0(b:TI)(g:TG)(c:TS):TS:=λD a H=>b a H (N7 g c D a H)
def qj(a:List Addr)(h:Heap):List (Addr×Obj):=a.filterMap λb=>(h.get? b).map λo=>(pq b o)
theorem fP{b:Addr}{o:Obj}(a:b∈j)(e:h'.get? b=some o):(pq b o)∈qj j h':=ahz.mpr (b,a,by rw[e];rfl)
theorem Ie{p:Addr×Obj}(a:p∈qj j h'):p.1∈j/\h'.get? p.1=some p.2:=by
 obtain⟨b,c,e⟩:=ahz.mp a;cases q:h'.get? b with
 | none=>rw[q]at e;cases e
 | some o =>
  rw[q]at e;have d:(pq b o)=p:=aap e;subst d;exact(c,q)
theorem Inv.pinned{σ:St}{H:Hp}{s:Shared}(I:Inv X π σ H s)(h:∀b∈j,gK X π H b)(g:∀b∈j,∃o,s.heap.get? b=some o /\ ∀v,o.data ≠ .cell v):Inv X (π++qj j s.heap) σ H s:=
 I.pins_of λp f=>(abn.mp f).elim (λz=>I.pin p (aav _ z)) λz=>by
  obtain⟨a,e⟩:=Ie z;obtain⟨l,k,i,_⟩:=h p.1 a;obtain⟨o,c,d⟩:=g p.1 a;rw[e]at c;cases c;exact(e,l,k,i,d)
theorem Inv.ξ{a:List (Addr×Obj)}{σ:St}{H:Hp}{s:Shared}(I:Inv X (π++a) σ H s):Inv X π σ H s:=I.pins_of λp b=>I.pin p (aav _ (afU _ b))
theorem bI{iter:Expr}{B:List Stmt}{Z:TI}{g:TG}{tb:TS}{pos:Pos}(F:PassesOwn (model X.prog X.w) X.A X.env X.xe)(hc:X.calm=true)(hi:PI X tg iter Z)(hg:PG X tg g)(c:Ub X B tb)
  (hs:∀x,foldedSetIterable iter X.env x=pure x:=by intro _;rfl):PS X (.For tg iter B [] pos) (R0 Z g tb):=by
 intro C s Y H D I h;refine wpAny_For (S5 (hi C s Y H _ I h) λv s1 h1=>S5 h1 λa0 s2 h2=>?_) hs;obtain⟨it,G,tn,J,H2,e,I2,T,V,f2,W,⟨m0,w0⟩,L⟩:=h2;subst e;have q:∀{y:Hp},(∀b∈G,y b=none) -> ∀b∈G,gK X C y b:=λhn b c=>(hn b c,(f2 b c).2);refine codeAny_forLoop_any (λn s'=>∃i p y,Inv X C p y s'/\tn i s'.heap/\(∀b∈G,y b=none)/\W i n p y) ?_ m0 (0,Y,H2,I2,V,λb c=>(f2 b c).1,w0);rintro n s3 ⟨i,l,P,I3,K,Vy,w3⟩;rcases L i n l P w3 with ⟨M,qn⟩|⟨go,N,hN,O⟩
 ·refine wpAny_passesOwn F (S5 (T.done X rfl rfl rfl hc i C s3 l P X.xe I3 (q Vy) K M) λr s4 ⟨R,I4⟩=>?_);subst R;exact wpAny_execs_nil (l,P,I4,qn)
 ·refine wpAny_passesOwn F (S5 (T.item X rfl rfl rfl hc i C s3 l P X.xe I3 (q Vy) K go) λr s4 ⟨u,R,h4⟩=>?_);subst R;refine wpAny_passesOwn F (S5 h4 λ_ s5 ⟨x,H5,I5,r5,y5,S,WN⟩=>?_);have WP:=I5.pinned (q WN) (T.obj _ _ S);refine wpAny_passesOwn F (S5 (hg _ s5 l H5 x u _ WP r5 (O x H5 y5)) λ_ s6 ⟨U,H6,I6,q6⟩=>?_);refine wpAny_passesOwn F (S5 (c _ s6 U H6 _ I6 q6) λf Q z=>?_);have t:∀{a:St}{k:Hp},Inv X (C++qj G s5.heap) a k Q->N a k -> ∃m,m<n /\ ∃i p y,Inv X C p y Q/\tn i Q.heap/\(∀b∈G,y b=none)/\W i m p y:=λ{a k} j E=>by
   obtain⟨m',hm,w7⟩:=hN a k E;refine(m',hm,i+1,a,k,j.ξ,T.keep _ _ _ S λb c o e=>(j.pin (pq b o) (aav _ (aav _ (fP c e)))).1,λb c=>?_,w7);obtain⟨o,e,d⟩:=T.obj _ _ S b c;exact(j.pin (pq b o) (aav _ (aav _ (fP c e)))).2.1
  cases f with
  | next=>obtain⟨a,k,j,E⟩:=z;exact t j E
  | cont=>obtain⟨a,k,j,E⟩:=z;exact t j E
  | brk=>obtain⟨a,k,j,z⟩:=z;exact(a,k,j.ξ,z)
  | ret v=>obtain⟨x7,a,k,j,r7,z⟩:=z;exact(x7,a,k,j.ξ,r7,z)
end
theorem b7{a:Addr}{xs:List V}{g:TG}{j:TS}{D:Ends}{σ:St}{H:Hp}(b:Nat->St->Hp->Prop)(s:b 0 σ H)(o:∀i σ H,i<=xs.length->b i σ H->My K H a xs)
  (n:∀i x σ H,xs[i]?=some x->b i σ H->g x σ H λ c h=>j { D with nx:=b (i+1),ct:=b (i+1),bk:=D.nx } c h)(hd:∀σ H,b xs.length σ H->D.nx σ H):
  ∃W:Nat->Nat->St->Hp->Prop,(∃m,W 0 m σ H) /\ ∀i m σ H,W i m σ H ->
   ((Vx K a).stop i H/\D.nx σ H)\/((Vx K a).go i H /\ ∃N:St->Hp->Prop,(∀d H',N d H' -> ∃k,k<m/\W (i+1) k d H') /\ ∀x H',(Vx K a).Uv i H x H'->g x σ H' λ c h=>j { D with nx:=N,ct:=N,bk:=D.nx } c h):=by
 exists λi m σ H=>m=xs.length - i/\i<=xs.length/\b i σ H,(xs.length,by simp,aaK _,s);rintro i m σ H ⟨rfl,r,p⟩;have q:=o i σ H r p;by_cases f:i<xs.length
 ·refine .inr ((xs,xs[i],q,by simp[f]),b (i+1),λ d H' l=>(xs.length - (i+1),by lia,rfl,f,l),λx H' y=>?_);obtain⟨e,y⟩:=y;subst e;exact n i x σ _ (y xs q) p
 ·have e:i=xs.length:=by lia
  subst e;exact .inl ((xs,q,aac _),hd σ H p)
theorem Mw{a:Addr}{xs:List V}{g:TG}{j:TS}{D:Ends}{σ:St}{H:Hp}(b:Nat->St->Hp->Prop)(s:b 0 σ H)(o:∀i σ H,i<=xs.length->b i σ H->S7 K H a xs)
  (n:∀i x σ H,xs[i]?=some x->b i σ H->g x σ H λ c h=>j { D with nx:=b (i+1),ct:=b (i+1),bk:=D.nx } c h)(hd:∀σ H,b xs.length σ H->D.nx σ H):
  ∃W:Nat->Nat->St->Hp->Prop,(∃m,W 0 m σ H) /\ ∀i m σ H,W i m σ H ->
   ((WM K a).stop i H/\D.nx σ H)\/((WM K a).go i H /\ ∃N:St->Hp->Prop,(∀d H',N d H' -> ∃k,k<m/\W (i+1) k d H') /\ ∀x H',(WM K a).Uv i H x H'->g x σ H' λ c h=>j { D with nx:=N,ct:=N,bk:=D.nx } c h):=by
 exists λi m σ H=>m=xs.length - i/\i<=xs.length/\b i σ H,(xs.length,by simp,aaK _,s);rintro i m σ H ⟨rfl,r,p⟩;have q:=o i σ H r p;by_cases f:i<xs.length
 ·refine .inr ((xs,xs[i],q,by simp[f]),b (i+1),λ d H' l=>(xs.length - (i+1),by lia,rfl,f,l),λx H' y=>?_);obtain⟨e,y⟩:=y;subst e;exact n i x σ _ (y xs q) p
 ·have e:i=xs.length:=by lia
  subst e;exact .inl ((xs,q,aac _),hd σ H p)
theorem xG{lo:Int}{n:Nat}{g:TG}{h:TS}{D:Ends}{σ:St}{H:Hp}(a:Nat->St->Hp->Prop)(o:a 0 σ H)
  (l:∀i σ H,i<n->a i σ H->g (.int (lo+i)) σ H λ b f=>h { D with nx:=a (i+1),ct:=a (i+1),bk:=D.nx } b f)(hd:∀σ H,a n σ H->D.nx σ H):
  ∃W:Nat->Nat->St->Hp->Prop,(∃m,W 0 m σ H) /\ ∀i m σ H,W i m σ H ->
   ((Vi lo n).stop i H/\D.nx σ H)\/((Vi lo n).go i H /\ ∃N:St->Hp->Prop,(∀c H',N c H' -> ∃j,j<m/\W (i+1) j c H') /\ ∀x H',(Vi lo n).Uv i H x H'->g x σ H' λ b f=>h { D with nx:=N,ct:=N,bk:=D.nx } b f):=by
 exists λi m σ H=>m=n - i/\i<=n/\a i σ H,(n,by simp,aaK _,o);rintro i m σ H ⟨rfl,q,p⟩;by_cases d:i<n
 ·refine .inr (d,a (i+1),λ c H' k=>(n - (i+1),by lia,rfl,d,k),λx H' y=>?_);obtain⟨e,y⟩:=y;subst e y;exact l i σ _ d p
 ·have e:i=n:=by lia
  subst e;exact .inl (aac _,hd σ H p)
abbrev R2:=V->V->Hp->VK->Prop
def Tn(X:Cx)(f:Value->Value->Sem Value)(r:R2):Prop:=
 ∀(b:List (Addr×Obj)) (s:Shared) (a:St) (H:Hp) (x y:V) (v u:Value) (Q:VK),Inv X b a H s->RelV x v->RelV y u->r x y H Q ->
  wpAny (model X.prog X.w) X.A (f v u) (EP X b a Q) X.xe s
def Yl(X:Cx)(f:Value->Sem Value)(r:V->Hp->VK->Prop):Prop:=
 ∀(b:List (Addr×Obj)) (s:Shared) (a:St) (H:Hp) (x:V) (v:Value) (Q:VK),Inv X b a H s->RelV x v->r x H Q ->
  wpAny (model X.prog X.w) X.A (f v) (EP X b a Q) X.xe s
def gn(X:Cx)(f:Value)(r:List V->Hp->VK->Prop):Prop:=
 ∀(b:List (Addr×Obj)) (s:Shared) (a:St) (H:Hp) (c:List V) (d:List Value) (Q:VK),Inv X b a H s->Vals c d->r c H Q ->
  wpAny (model X.prog X.w) X.A (call f d) (EP X b a Q) X.xe s
def Qm(r:R2)(Q:VK)(x:V):VK:=λy a=>r x y a Q
def Pj(r:R2)(a:TE)(σ:St)(Q:VK):VK:=λx b=>a σ b (Qm r Q x)
def WQ(r:R2)(c b:TE):TE:=λ a H Q=>c a H (Pj r b a Q)
def Qx(r:V->Hp->VK->Prop)(Q:VK):VK:=λx a=>r x a Q
def tUn(r:V->Hp->VK->Prop)(b:TE):TE:=λ a H Q=>b a H (Qx r Q)
inductive rI(C:Int->Int->Prop)(g:Int->Int->V)(x:V)(y:V)(H:Hp)(Q:VK):Prop
 | mk (i j:_) (_:x=.int i) (_:y=.int j) (_:C i j) (_:Q (g i j) H)
inductive Vm(g:Int->Int->V)(x:V)(y:V)(H:Hp)(Q:VK):Prop
 | mk (i j:_) (_:x=.int i) (_:y=.int j) (_:Q (g i j) H)
inductive rU(g:Int->V)(x:V)(H:Hp)(Q:VK):Prop
 | mk (i:_) (_:x=.int i) (_:Q (g i) H)
section
variable{X:Cx}{a c:Expr}{ta tb tc:TE}{pos:Pos}
theorem Pa(r:PE X a ta)(q:PE X b tb){s:Shared}{σ:St}{H:Hp}{R:V->V->Hp->Prop}(I:Inv X π σ H s)
  (h:ta σ H λx j=>tb σ j λy d=>R x y d){Q:Value->Shared->Prop}{f:Value->Value->Sem Value}
  (p:∀v u i x y d,Inv X π σ d i->RelV x v->RelV y u->R x y d->wpAny (model X.prog X.w) X.A (f v u) Q X.xe i):
  wpAny (model X.prog X.w) X.A (eval a X.env) (λv g=>wpAny (model X.prog X.w) X.A (eval b X.env) (λu e=>wpAny (model X.prog X.w) X.A (f v u) Q X.xe e) X.xe g) X.xe s:=by
 refine S5 (r π s σ H _ I h) λv k ⟨x,j,z,m,o⟩=>?_;refine S5 (q π k σ j _ z o) λu i ⟨y,d,t,l,n⟩=>?_;exact p v u i x y d t m l n
theorem aB{d:Operator}{r:R2}(k:Tn X (binaryOp d) r)(m:PE X a ta)(l:PE X b tb):PE X (.BinOp a d b pos) (WQ r ta tb):=by
 intro f s e H Q I h;exact wpAny_BinOp (Pa m l I h λv u g x y o n j i q=>k f g e o x y v u Q n j i q)
theorem lC{f:UnaryOp}{r:V->Hp->VK->Prop}(k:Yl X (unaryOp f) r)(l:PE X a ta):PE X (.UnaryOp f a pos) (tUn r ta):=by
 intro e s d H Q I h;exact UnaryOp_ (S5 (l e s d H _ I h) λv g ⟨x,n,m,i,j⟩=>k e g d n x v Q m i j)
theorem WR{f:Value->Value->Sem Value}{C:Int->Int->Prop}{g:Int->Int->Int}
  (d:∀(i j:Int) (t u:Tok) (s:Shared) (Q:Value->Shared->Prop) (E:Value->Shared->Prop),C i j->Q (.int (g i j) s.toks) { s with toks:=s.toks+1 }->wpAny (model X.prog X.w) X.A (f (.int i t) (.int j u)) Q E s):
  Tn X f (rI C λi j=>.int (g i j)):=by
 intro o s n H x y v u Q I l k h;obtain⟨i,j,rfl,rfl,m,q⟩:=h;obtain⟨t,rfl⟩:=l;obtain⟨e,rfl⟩:=k;exact d i j t e s _ _ m (.int (g i j),H,I.tok _,(_,rfl),q)
theorem QW{f:Value->Value->Sem Value}{g:Int->Int->Int}
  (d:∀(i j:Int) (t u:Tok) (s:Shared) (Q:Value->Shared->Prop) (E:Value->Shared->Prop),Q (.int (g i j) s.toks) { s with toks:=s.toks+1 }->wpAny (model X.prog X.w) X.A (f (.int i t) (.int j u)) Q E s):
  Tn X f (Vm λi j=>.int (g i j)):=by
 intro n s m H x y v u Q I l k h;obtain⟨i,j,rfl,rfl,q⟩:=h;obtain⟨t,rfl⟩:=l;obtain⟨e,rfl⟩:=k;exact d i j t e s _ _ (.int (g i j),H,I.tok _,(_,rfl),q)
theorem MK{f:Value->Value->Sem Value}{g:Int->Int->Bool}
  (d:∀(i j:Int) (t u:Tok) (s:Shared) (Q:Value->Shared->Prop) (E:Value->Shared->Prop),Q (.bool (g i j)) s->wpAny (model X.prog X.w) X.A (f (.int i t) (.int j u)) Q E s):
  Tn X f (Vm λi j=>.bl (g i j)):=by
 intro n s m H x y v u Q I l k h;obtain⟨i,j,rfl,rfl,q⟩:=h;obtain⟨t,rfl⟩:=l;obtain⟨e,rfl⟩:=k;exact d i j t e s _ _ (.bl (g i j),H,I,rfl,q)
def R4(i j:Int):Prop:=0<j/\j<1073741824
def R8(i j:Int):Prop:=0<=j/\j<=1000000/\i.natAbs<2^64
def Qv(i j:Int):Prop:=(-(2^64)<i/\i<2^64)\/(-(2^64)<j/\j<2^64)
theorem Qv.ok{i j:Int}(h:Qv i j):IntMulOk i j:=by
 rcases h with ⟨e,d⟩|⟨e,d⟩
 ·exact .of_left (intBits_le_64 e d)
 ·exact .of_right (intBits_le_64 e d)
theorem Eg(k:Nat):(0:Int)<=2^k:=by
 rw[two_pow_cast];exact Int.natCast_nonneg _
theorem bc:Tn X (binaryOp .Add) (Vm λi j=>.int (i+j)):=QW λ_ _ _ _ _ _ _ q=>add_int q
theorem bz:Tn X (binaryOp .Sub) (Vm λi j=>.int (i - j)):=QW λ_ _ _ _ _ _ _ q=>sub_int q
theorem cL:Tn X (binaryOp .Mult) (rI Qv λi j=>.int (i*j)):=WR λ_ _ _ _ _ _ _ d q=>mul_int q d.ok
theorem bL:Tn X (binaryOp .FloorDiv) (rI R4 λi j=>.int (i / j)):=WR λi j _ _ _ _ _ d q=>by
 have f:(0:Int)<j:=d.1;have e:j<1073741824:=d.2;exact floordiv_int (by lia) (by rw[ahw i (by lia)];exact q) (.inl (PyProof.noPylong_small (by lia)))
theorem bT:Tn X (binaryOp .Mod) (rI (λ_ j=>0<j) λi j=>.int (i%j)):=WR λi j _ _ _ _ _ d q=>by
 have e:(0:Int)<j:=d;exact mod_int' (by lia) (by rw[Int.fmod_eq_emod_of_nonneg i (by lia)];exact q)
theorem LQ:Tn X (binaryOp .Pow) (rI R8 λi j=>.int (i^j.toNat)):=WR λ_ _ _ _ _ _ _ d q=>pow_int_small d.1 d.2.1 d.2.2 q
theorem QD:Tn X (binaryOp .RShift) (rI (λ_ j=>0<=j) λi j=>.int (i / 2^j.toNat)):=WR λi j _ _ _ _ _ d q =>
 rshift_int d (by rw[ahw i (Eg _)];exact q)
theorem Qz:Tn X (binaryOp .BitAnd) (Vm λi j=>.int (Builtin.bitAnd i j)):=QW λ_ _ _ _ _ _ _ q=>and_int q
theorem unI{f:Value->Sem Value}{g:Int->Int}
  (d:∀(i:Int) (t:Tok) (s:Shared) (Q:Value->Shared->Prop) (E:Value->Shared->Prop),Q (.int (g i) s.toks) { s with toks:=s.toks+1 }->wpAny (model X.prog X.w) X.A (f (.int i t)) Q E s):
  Yl X f (rU λi=>.int (g i)):=by
 intro k s j H x v Q I e h;obtain⟨i,rfl,q⟩:=h;obtain⟨t,rfl⟩:=e;exact d i t s _ _ (.int (g i),H,I.tok _,(_,rfl),q)
theorem jc:Yl X (unaryOp .USub) (rU λi=>.int (-i)):=unI λ_ _ _ _ _ q=>neg_int q
end
def Q9:V->V->Bool
 | .non,.non=>true | .non,.int _=>true | .int _,.non=>true | .non,.bl _=>true | .bl _,.non=>true | .non,.str _=>true | .str _,.non=>true
 | .int _,.int _=>true | .bl _,.bl _=>true | .str _,.str _=>true | .U3 _,.U3 _=>true
 | .int _,.str _=>true | .str _,.int _=>true | .bl _,.str _=>true | .str _,.bl _=>true
 | _,_=>false
def rEq:R2:=λx y H Q=>Q9 x y=true/\Q (.bl (decide (x=y))) H
def rNe:R2:=λx y H Q=>Q9 x y=true/\Q (.bl (!decide (x=y))) H
theorem GD{i j:Int}:decide (V.int i=V.int j)=(i == j):=by
 rw[ahr];simp
theorem Lg{i j:Bool}:decide (V.bl i=V.bl j)=(i == j):=by
 rw[ahr];simp
theorem GK{i j:Str}:decide (V.str i=V.str j)=(i == j):=by
 rw[ahr];simp
theorem Ge{i j:Array UInt8}:decide (V.U3 i=V.U3 j)=(i.toList == j.toList):=by
 rw[ahr];cases i;cases j;simp
section
variable{X:Cx}{a c:Expr}{ta tb tc:TE}{pos:Pos}
theorem bH{σ:St}{H:Hp}{s:Shared}{Q:VK}{k d:Bool}(I:Inv X π σ H s)(q:Q (.bl k) H)(e:k=d):EP X π σ Q (.bool d) s:=by
 subst e;exact(.bl k,H,I,rfl,q)
theorem cT:Tn X (compareOp .Eq) rEq:=by
 intro l s k H x y v u Q I g d h;obtain⟨f,q⟩:=h;cases x with
 | non =>
  cases g;cases y with
  | non=>cases d;exact PySem.EqNone.eq_none_none (bH I q (by simp))
  | bl j=>cases d;exact PySem.EqNone.eq_none_bool (bH I q (by simp))
  | int j=>obtain⟨e,rfl⟩:=d;exact PySem.EqNone.eq_none_int (bH I q (by simp))
  | str j=>obtain⟨e,rfl⟩:=d;exact PySem.EqNone.eq_none_str (bH I q (by simp))
  | _=>exact absurd (show false=true from f) aar
 | bl i =>
  cases g;cases y with
  | non=>cases d;exact PySem.EqNone.eq_bool_none (bH I q (by simp))
  | bl j=>cases d;exact eq_bool (bH I q Lg)
  | str j=>obtain⟨e,rfl⟩:=d;exact PySem.EqMixed.eq_bool_str (bH I q (by simp))
  | _=>exact absurd (show false=true from f) aar
 | int i =>
  obtain⟨t,rfl⟩:=g;cases y with
  | non=>cases d;exact PySem.EqNone.eq_int_none (bH I q (by simp))
  | int j=>obtain⟨e,rfl⟩:=d;exact eq_int (bH I q GD)
  | str j=>obtain⟨e,rfl⟩:=d;exact PySem.EqMixed.eq_int_str (bH I q (by simp))
  | _=>exact absurd (show false=true from f) aar
 | str i =>
  obtain⟨t,rfl⟩:=g;cases y with
  | non=>cases d;exact PySem.EqNone.eq_str_none (bH I q (by simp))
  | bl j=>cases d;exact PySem.EqMixed.eq_str_bool (bH I q (by simp))
  | int j=>obtain⟨e,rfl⟩:=d;exact PySem.EqMixed.eq_str_int (bH I q (by simp))
  | str j=>obtain⟨e,rfl⟩:=d;exact eq_str (bH I q GK)
  | _=>exact absurd (show false=true from f) aar
 | U3 i =>
  obtain⟨t,rfl⟩:=g;cases y with
  | U3 j=>obtain⟨e,rfl⟩:=d;exact PySem.W.eq_bytes (bH I q Ge)
  | _=>exact absurd (show false=true from f) aar
 | _=>cases y <;> exact absurd (show false=true from f) aar
theorem yf:Tn X (compareOp .NotEq) rNe:=by
 intro l s k H x y v u Q I g d h;obtain⟨f,q⟩:=h;cases x with
 | non =>
  cases g;cases y with
  | non=>cases d;exact PySem.EqNone.ne_none_none (bH I q (by simp))
  | bl j=>cases d;exact PySem.EqNone.ne_none_bool (bH I q (by simp))
  | int j=>obtain⟨e,rfl⟩:=d;exact PySem.EqNone.ne_none_int (bH I q (by simp))
  | str j=>obtain⟨e,rfl⟩:=d;exact PySem.EqNone.ne_none_str (bH I q (by simp))
  | _=>exact absurd (show false=true from f) aar
 | bl i =>
  cases g;cases y with
  | non=>cases d;exact PySem.EqNone.ne_bool_none (bH I q (by simp))
  | bl j=>cases d;exact ne_bool (bH I q (congrArg not Lg))
  | str j=>obtain⟨e,rfl⟩:=d;exact PySem.EqMixed.ne_bool_str (bH I q (by simp))
  | _=>exact absurd (show false=true from f) aar
 | int i =>
  obtain⟨t,rfl⟩:=g;cases y with
  | non=>cases d;exact PySem.EqNone.ne_int_none (bH I q (by simp))
  | int j=>obtain⟨e,rfl⟩:=d;exact ne_int (bH I q (congrArg not GD))
  | str j=>obtain⟨e,rfl⟩:=d;exact PySem.EqMixed.ne_int_str (bH I q (by simp))
  | _=>exact absurd (show false=true from f) aar
 | str i =>
  obtain⟨t,rfl⟩:=g;cases y with
  | non=>cases d;exact PySem.EqNone.ne_str_none (bH I q (by simp))
  | bl j=>cases d;exact PySem.EqMixed.ne_str_bool (bH I q (by simp))
  | int j=>obtain⟨e,rfl⟩:=d;exact PySem.EqMixed.ne_str_int (bH I q (by simp))
  | str j=>obtain⟨e,rfl⟩:=d;exact ne_str (bH I q (congrArg not GK))
  | _=>exact absurd (show false=true from f) aar
 | U3 i =>
  obtain⟨t,rfl⟩:=g;cases y with
  | U3 j=>obtain⟨e,rfl⟩:=d;exact PySem.W.ne_bytes (bH I q (congrArg not Ge))
  | _=>exact absurd (show false=true from f) aar
 | _=>cases y <;> exact absurd (show false=true from f) aar
theorem jH:Tn X (compareOp .Lt) (Vm λi j=>.bl (decide (i<j))):=MK λ_ _ _ _ _ _ _ q=>lt_int q
theorem jj:Tn X (compareOp .LtE) (Vm λi j=>.bl (decide (i<=j))):=MK λ_ _ _ _ _ _ _ q=>le_int q
theorem jf:Tn X (compareOp .Gt) (Vm λi j=>.bl (decide (j<i))):=MK λ_ _ _ _ _ _ _ q=>gt_int q
theorem z8:Tn X (compareOp .GtE) (Vm λi j=>.bl (decide (j<=i))):=MK λ_ _ _ _ _ _ _ q=>ge_int q
theorem Lh(b:Expr){d:CmpOp}(h:d ≠ .In:=by decide)(e:d ≠ .NotIn:=by decide):behindInMarks d b=false:=by
 have g:(d == CmpOp.In)=false:=by cases d <;> first|rfl|exact absurd rfl h
 have f:(d == CmpOp.NotIn)=false:=by cases d <;> first|rfl|exact absurd rfl e
 cases b <;> simp[behindInMarks,g,f]
theorem Gs{d:CmpOp}{r:R2}(k:Tn X (compareOp d) r)(n:PE X a ta)(m:PE X b tb)(l:behindInMarks d b=false:=by exact Lh _):PE X (.Compare a [d] [b] pos) (WQ r ta tb):=by
 intro f s e H Q I h;exact wpAny_Compare1 (Pa n m I h λv u g x y p o j i q=>k f g e p x y v u Q o j i q) l
inductive Mh(Q:Bool->Hp->Prop)(x:V)(H':Hp):Prop
 | mk (k:_) (_:x=.bl k) (_:Q k H')
def Ly(t:TE):TT:=λ d H Q=>t d H (Mh Q)
theorem aG{g:CmpOp}{r:R2}(t:Tn X (compareOp g) r)(B:PE X a ta)(A:PE X b tb)(w:behindInMarks g b=false:=by exact Lh _):PT X (.Compare a [g] [b] pos) (Ly (WQ r ta tb)):=by
 intro f s d H Q I h;refine wpAny_isTrue_Compare1 (S5 (B f s d H _ I h) λv j ⟨x,J,E,n,q⟩=>S5 (A f j d J _ E q) λu i ⟨y,G,D,m,p⟩ =>
  S5 (t f i d G x y v u _ D n m p) λc K ⟨z,F,C,l,k,e,o⟩=>?_) w
 subst e;cases l;exact wpAny_truthy_bool (F,C,o)
inductive J3(r':R2)(tc:TE)(σ:St)(Q:VK)(y:V)(z:V)(H3:Hp):Prop
 | mk (k:_) (_:z=.bl k) (_:(if k=true then tc σ H3 λw' H4=>r' y w' H4 Q else Q (.bl false) H3))
def Jw(r:R2)(d:R2)(tc:TE)(σ:St)(Q:VK)(x:V):VK:=λy e=>r x y e (J3 d tc σ Q y)
def Js(r:R2)(d:R2)(tb:TE)(tc:TE)(σ:St)(Q:VK):VK:=λx e=>tb σ e (Jw r d tc σ Q x)
def O8(r e:R2)(ta tb tc:TE):TE:=λ d H Q=>ta d H (Js r e tb tc d Q)
theorem v8{j f:CmpOp}{r n:R2}(P:Tn X (compareOp j) r)(l:Tn X (compareOp f) n)(U:PE X a ta)(T:PE X b tb)(S:PE X c tc)
  (R:lastMarks [j,f] [b,c]=false:=by with_unfolding_all rfl):PT X (.Compare a [j,f] [b,c] pos) (Ly (O8 r n ta tb tc)):=by
 intro i s g H Q I h;refine isTrue_chain (S5 (U i s g H _ I h) λv D ⟨x,H1,I1,J,N⟩=>test_link (S5 (T i D g H1 _ I1 N) λu C ⟨y,H2,I2,m,M⟩ =>
  S5 (P i C g H2 x y v u _ I2 J m M) λd B ⟨z,q,p,G,k,e,o⟩=>?_)) R
 subst e;cases G;refine wpAny_truthy_bool ?_;cases k with
 | false =>
  obtain⟨k',W,O⟩:=o;cases W;exact ite_ff (q,p,O)
 | true =>
  refine ite_tt (test_last (S5 (S i B g q _ p o) λw A ⟨t,H4,Z,F,L⟩=>S5 (l i A g H4 y t u w _ Z m F L) λd' s5 ⟨z2,H5,Y,E,k2,V,K⟩=>?_));subst V;cases E;exact wpAny_truthy_bool (H5,Y,K)
theorem rA:(sizeLine:Nat)<2^63:=by rw[sizeLine_eq];decide
theorem dq:Tn X (binaryOp .Add) (λx y H Q=>∃i j,x=.str i/\y=.str j/\i.length+j.length<=sizeLine/\Q (.str (i++j)) H):=by
 intro l s k H x y v u Q I f e h;obtain⟨i,j,rfl,rfl,g,q⟩:=h;obtain⟨t,rfl⟩:=f;obtain⟨d,rfl⟩:=e;exact add_str (λd m=>(.str (i++j),H,I.tok _,(_,rfl),q)) g
theorem vals1{x:V}{d:List Value}(r:Vals [x] d):∃u,d=[u]/\RelV x u:=by
 cases r with
 | cons f e=>cases e;exact(_,rfl,f)
theorem vals2{x y:V}{e:List Value}(r:Vals [x,y] e):∃u d,e=[u,d]/\RelV x u/\RelV y d:=by
 cases r with
 | cons i h =>
  cases h with
  | cons g f=>cases f;exact(_,_,rfl,i,g)
theorem HH(e:X.calm=true):gn X (.builtin "max") (λxs H Q=>∃i j,xs=[.int i,.int j]/\Q (.int (if j > i then j else i)) H):=by
 intro g s f H xs m Q I r h;obtain⟨i,j,rfl,q⟩:=h;obtain⟨u,l,rfl,⟨t,rfl⟩,⟨o,rfl⟩⟩:=vals2 r;refine max_two_ints (I.ok.hd e) λp n k=>(_,H,I.kept k,?_,q);by_cases d:j > i
 ·rw[if_pos d,if_pos d];exact(_,rfl)
 ·rw[if_neg d,if_neg d];exact(_,rfl)
theorem xK(e:X.calm=true):gn X (.builtin "min") (λxs H Q=>∃i j,xs=[.int i,.int j]/\Q (.int (if j<i then j else i)) H):=by
 intro g s f H xs m Q I r h;obtain⟨i,j,rfl,q⟩:=h;obtain⟨u,l,rfl,⟨t,rfl⟩,⟨o,rfl⟩⟩:=vals2 r;refine min_two_ints (I.ok.hd e) λp n k=>(_,H,I.kept k,?_,q);by_cases d:j<i
 ·rw[if_pos d,if_pos d];exact(_,rfl)
 ·rw[if_neg d,if_neg d];exact(_,rfl)
end
structure P0(h:Heap)(x dx C:Addr)(mA:Str->Option Value):Prop where
 obj:h.get? x=some (PySem.W.instObj C dx)
 ns:h.Ns1 dx mA
 ne:dx≠x
theorem HX(n:h'.Ns1 a mg):∃d,h'.get? a=some d /\ ∀name,PySem.W.lookIn name d=some (mg name):=by
 obtain⟨o,f,m,i,hd,k,_,j⟩:=n;refine(o,i,λname=>?_);have e:=j name;unfold nsFind findBy at e;rw[<-Array.find?_toList]at e;unfold PySem.W.lookIn;rw[hd];dsimp only;split
 ·rename_i y q;rw[q]at e;exact congrArg some e
 ·rename_i q;rw[q]at e;have b:f.toList.any (·.refKey)=false:=by
   rw[List.any_eq_false];intro y g;obtain⟨z,t,c⟩:=k y (Array.mem_toList_iff.mp g);simp[DictEntry.refKey,c]
  have l:¬f.toList.any (·.refKey)=true:=by rw[b];exact aar
  rw[if_neg l];exact congrArg some e
theorem P0.look{x C:Addr}(I:P0 h' x a C mg):∃b,PySem.W.InstAt h' x (PySem.W.instObj C a) C (some b) /\ ∀name,PySem.W.lookIn name b=some (mg name):=
 let ⟨b,ho,hl⟩:=HX I.ns
 (b,(I.obj,rfl,rfl,ho),hl)
section
variable{x:Addr}{mA:Str->Option Value}{v:Value}
end
theorem vZ.some_of{v:V}{o:Option Value}(r:vZ (some v) o):∃u,o=some u/\RelV v u:=by
 cases o with
 | none=>exact(show False from r).elim
 | some u=>exact(u,rfl,r)
section
variable{P:Program}{H H':Hp}{fs fs':List (Str×V)}
theorem N6(c:Ti P w H h)(e:H a=some (.ins C dx fs)):∃b,P0 h a dx C b/\(∀f,vZ (fs.lookup f) (b f))/\PySem.Within b (fs.map (·.1))/\fs.length<=1000/\H dx=some (.own a):=by
 obtain⟨d,z,i,g,b,n,r,q⟩:=(show bB P w H h a (.ins C dx fs)from c a _ e);exact(b,(g,n,i),r,q,z,d)
end
structure Ym(K:PySem.W.Frag)(C:Addr):Prop where
 pg:PySem.W.plainGet K C Str.empty=true
 hd:PySem.W.hasDictIn K C=true
 po:PySem.W.plainOver K C=true
 sa:PySem.W.findIn K (.ref C) "__setattr__" = some (some (.builtin "object.__setattr__"))
theorem Ym.get{C:Addr}(c:Ym K C)(f:Str):PySem.W.plainGet K C f=true:=c.pg
section
variable{X:Cx}{σ:St}{H:Hp}{fs:List (Str×V)}{f:Str}{v:V}
end
section
variable{X:Cx}{value:Expr}{f:Str}{pos pos' tpos:Pos}{ta tv:TE}
end
section
variable{X:Cx}{σ:St}{H:Hp}{Q:Value->Shared->Prop}{c:Value}{b:Bool}
inductive qH(K:PySem.W.Frag)(H:Hp):V->Value->Prop where
 | non:qH K H .non (.type "NoneType")
 | bl (x:Bool):qH K H (.bl x) (.type "bool")
 | int (i:Int):qH K H (.int i) (.type "int")
 | str (x:Str):qH K H (.str x) (.type "str")
 | flt (x:UInt64):qH K H (.flt x) (.type "float")
 | lst {a:Addr}{xs:List V} (e:H a=some (.lst xs)):qH K H (.ref a) (.type "list")
 | Ua {a:Addr}{o:Obj}{xs:List V} (e:H a=some (.Ua o (.lst xs))):qH K H (.ref a) (.type "list")
 | tup {a:Addr}{xs:List V} (e:H a=some (.tup xs)):qH K H (.ref a) (.type "tuple")
 | dK {a:Addr}{kvs:List (Key×V)} (e:H a=some (.dK kvs)):qH K H (.ref a) (.type "dict")
 | dT {a:Addr}{kvs:List (List Key×V)} (e:H a=some (.dT kvs)):qH K H (.ref a) (.type "dict")
 | ins {a C dx:Addr}{fs:List (Str×V)} (e:H a=some (.ins C dx fs)) (cl:Ym K C) (ha:PySem.W.findIn K (.ref C) "__class__" = some (some (.builtin "object.__class__")))
   (hn:PySem.W.specialIn K (.builtin "object.__class__") "__get__" = some (some (.builtin "getset_descriptor.__get__"))) (htk:PySem.W.takesIn K (.builtin "object.__class__")=some true)
   (hm:PySem.W.mroIn K C (.type "object")=some true):qH K H (.ref a) (.ref C)
theorem Jv{x:V}{u t:Value}(I:Inv X π σ H s)(d:RelV x u)(v:qH X.K H x t)(e:PySem.W.kitOne X.K t c=some b)(h:∀tk,Q (.bool b) { s with toks:=tk }):
  wpAny (model X.prog X.w) A (call (.builtin "isinstance") [u,c]) Q E s:=by
 cases v with
 | non=>cases (show u=Value.none from d);exact PySem.W.kia_one PySem.W.kitx_none I.Ug True.intro e (λz=>nomatch z) h
 | bl y=>cases (show u=Value.bool y from d);exact PySem.W.kia_one PySem.W.kitx_bool I.Ug True.intro e (λz=>nomatch z) h
 | int i=>obtain⟨t,q⟩:=(show ∃t,u=Value.int i t from d);cases q;exact PySem.W.kia_one PySem.W.kitx_int I.Ug True.intro e (λz=>nomatch z) h
 | str y=>obtain⟨t,q⟩:=(show ∃t,u=Value.str y t from d);cases q;exact PySem.W.kia_one PySem.W.kitx_str I.Ug True.intro e (λz=>nomatch z) h
 | flt y=>obtain⟨t,q⟩:=(show ∃t,u=Value.float y t from d);cases q;exact PySem.W.kia_one PySem.W.kitx_float I.Ug True.intro e (λz=>nomatch z) h
 | @lst a k f =>
  cases (show u=Value.ref a from d);obtain⟨_,_,n,_,g⟩:=(show bB X.prog X.w H s.heap a (.lst k)from I.hok a _ f);exact PySem.W.kia_one PySem.W.kitx_list I.Ug (_,g,rfl) e (λz=>nomatch z) h
 | @Ua a B k f =>
  cases (show u=Value.ref a from d);obtain⟨_,_,_,n,_,g⟩:=(show bB X.prog X.w H s.heap a (.Ua B (.lst k))from I.hok a _ f);exact PySem.W.kia_one PySem.W.kitx_list I.Ug (_,g,rfl) e (λz=>nomatch z) h
 | @tup a k f =>
  cases (show u=Value.ref a from d);obtain⟨_,_,_,p⟩:=(show bB X.prog X.w H s.heap a (.tup k)from I.hok a _ f);obtain⟨o,g,l,_⟩:=p;exact PySem.W.kia_one PySem.W.kitx_tuple I.Ug (o,g,l) e (λz=>nomatch z) h
 | @dK a j f =>
  cases (show u=Value.ref a from d);obtain⟨_,_,N,_,p⟩:=(show bB X.prog X.w H s.heap a (.dK j)from I.hok a _ f);obtain⟨o,L,M,g,l,_⟩:=p;exact PySem.W.kia_one PySem.W.kitx_dict I.Ug (o,g,l.1) e (λz=>nomatch z) h
 | @dT a j f =>
  cases (show u=Value.ref a from d);obtain⟨_,_,k,_,o,L,M,g,l,_⟩:=(show bB X.prog X.w H s.heap a (.dT j)from I.hok a _ f);exact PySem.W.kia_one PySem.W.kitx_dict I.Ug (o,g,l.1) e (λz=>nomatch z) h
 | @ins a C T S f r G D m F =>
  cases (show u=Value.ref a from d);obtain⟨R,O,_⟩:=N6 I.hok f;obtain⟨P,J,_⟩:=O.look;exact PySem.W.kia_one (PySem.W.kitx_own (r.get _) r.hd G D m F) I.Ug J e (λz=>nomatch z) h
end
structure dX(k:Nat)(A:Around):Prop where
 hd:A.handled=none
 dp:A.depth+3*k+5<recursionLimit
 un:A.units+16*k+200<cLine
theorem dX.mono{j k:Nat}{A:Around}(r:dX k A)(h:j<=k):dX j A:=(r.hd,by have:=r.dp;lia,by have:=r.un;lia)
theorem dX.deeper{k:Nat}{A:Around}(r:dX (k+1) A)(a:Env):dX k (A.deeper a):=
 (r.hd,by have:=r.dp;show A.depth+1+3*k+5<_;lia,by have:=r.un;show A.units+3+16*k+200<_;lia)
theorem dX.depth{k:Nat}{A:Around}(r:dX k A):A.depth<recursionLimit:=by have:=r.dp;lia
theorem dX.units{k:Nat}{A:Around}(r:dX k A):A.units+64<cLine:=by have:=r.un;lia
def Ra:TA:=λ_ H Q=>Q [] H
def KH(Q:List V->Hp->Prop)(x:V):List V->Hp->Prop:=λa b=>Q (x::a) b
def JM(a:TA)(σ:St)(Q:List V->Hp->Prop):VK:=λx b=>a σ b (KH Q x)
def Oz(c:TE)(b:TA):TA:=λ a H Q=>c a H (JM b a Q)
section
variable{X:Cx}{es:List Expr}{te:TE}{t:TA}{pos:Pos}
theorem ak:PA X [] Ra:=λ_ _ _ _ H Q I h=>Calls.spliced_nil ([],H,I,.nil,h)
theorem aa(m:PE X e te)(l:PA X es t)(k:starEach (e::es) X.env=(pq false (eval e X.env))::starEach es X.env:=by rfl):PA X (e::es) (Oz te t):=by
 intro pos b s a H Q I h;rw[k];show wpAny _ _ (spliced ((pq false (eval e X.env))::backTo pos (starEach es X.env))) _ _ s;refine Calls.spliced_cons (S5 (m b s a H _ I h) λu d ⟨x,q,o,g,j⟩=>?_);exact S5 (l pos b d a q _ o j) λr v ⟨c,p,n,f,i⟩=>(x::c,p,n,.cons g f,i)
def Ob(Q:VK):List V->Hp->Prop:=λa b=>a.length<=sizeLine /\ ∀p,b p=none->Q (.ref p) (upd b p (.tup a))
def R1(t:TA):TE:=λ a H Q=>t a H (Ob Q)
def Nx(Q:VK):List V->Hp->Prop:=λa b=>a.length<=sizeLine /\ ∀p,b p=none->Q (.ref p) (upd b p (.lst a))
def Ro(t:TA):TE:=λ a H Q=>t a H (Nx Q)
theorem iM{x1}(h:PA X es t):PE X (.Tuple es x1 pos) (R1 t):=by
 intro g s f H Q I k;refine wpAny_Tuple_spliced (S5 (h pos g s f H _ I k) λj a ⟨i,d,c,r,z,q⟩=>(by rw[<-r.length];exact z,?_));have l:d a.heap.objs.size=none:=c.hok.fresh (aac _);refine(.ref a.heap.objs.size,upd d a.heap.objs.size (.tup i),c.laid (t':=a.toks) (λb u e=>Heap.get?_push_of_some _ e) (aac _) ?_,rfl,q _ l);exact(z,j,r,(_,Heap.get?_push_size _ rfl,rfl,_,rfl))
theorem cX(h:PA X es t):PE X (.List es pos) (Ro t):=by
 intro g s f H Q I k;refine wpAny_List_spliced (S5 (h pos g s f H _ I k) λj a ⟨i,d,c,r,z,q⟩=>(by rw[<-r.length];exact z,?_));have l:d a.heap.objs.size=none:=c.hok.fresh (aac _);refine(.ref a.heap.objs.size,upd d a.heap.objs.size (.lst i),c.laid (t':=a.toks) (λb u e=>Heap.get?_push_of_some _ e) (aac _) ?_,rfl,q _ l);exact(z,j,0,r,Heap.get?_push_size _ rfl)
end
abbrev Sp:=List V->Hp->VK->XK->Prop
abbrev Uh:=List Env->Hp->Shared->XK->Value->Shared->Prop
variable{X:Cx}{H H':Hp}{σ:St}{ta tb te:TE}{t:TA}{sp:Sp}{CX:Uh}{l:List V}{B:Addr->Hp->Prop}
structure EY(P:Program)(w:World)(K:PySem.W.Frag)(mg:Str->Option Value)(base:Heap)(A:Around)(outer:List Env)(s:Shared)(H:Hp):Prop where
 frames:A.frames=some outer
 mod:Mod K mg base
 bs:∀b o,base.get? b=some o->s.heap.get? b=some o/\H b=none
 U4:base.objs.size<=s.heap.objs.size
 funs:s.heap.FunFrames base outer
 Vh:∀b∈frs outer,H b=none
 hok:Ti P w H s.heap
 bare:AllBare s.gens
inductive CE(outer:List Env)(P:Program)(w:World)(H:Hp)(s:Shared)(Q:VK)(u:Value)(s':Shared):Prop
 | mk (v H':_) (_:s'.os=s.os) (_:AllBare s'.gens) (_:Un (frs outer) [] H H' s.heap s'.heap) (_:Ti P w H' s'.heap) (_:RelV v u) (_:Q v H')
def CR(c:Uh)(a:List Env)(P:Program)(w:World)(H:Hp)(s:Shared)(Q:VK)(E:XK)(r:Result)(b:Shared):Prop:=
 match r with
 | .ok (.ret u)=>CE a P w H s Q u b
 | .ok _=>False
 | .error e=>c a H s E e b
structure aV(P:Program)(w:World)(K:PySem.W.Frag)(mg:Str->Option Value)(base:Heap)(CX:Uh)(k:Nat)(f:Addr)(fd:FuncData)(ps:List Str)(sp:Sp):Prop where
 len:∀vs H Q E,sp vs H Q E->vs.length=ps.length
 run:∀(A:Around) (outer:List Env) (s:Shared) (H:Hp) (args:Args) (us:List Value) (vs:List V) (Q:VK) (E:XK),dX k A->EY P w K mg base A outer s H->BindsTo s fd args (ps.zip us)->Vals vs us->sp vs H Q E ->
  codeAny (model P w) A (.call (.ref f) args) (CR CX outer P w H s Q E) s
theorem aV.mono{P:Program}{w:World}{K:PySem.W.Frag}{mg:Str->Option Value}{base:Heap}{d:Uh}{j k:Nat}{f:Addr}{fd:FuncData}{ps:List Str}{c:Sp}(F:aV P w K mg base d j f fd ps c)(h:j<=k):
  aV P w K mg base d k f fd ps c:=(F.len,λA a s H b g e Q E i=>F.run A a s H b g e Q E (i.mono h))
section
variable{s':Shared}
theorem Inv.env0(I:Inv X π σ H s):EY X.prog X.w X.K X.mg X.base X.A X.stack s H:=
 (I.ok.frames,I.ok.mod,I.bs,adh I.ok.U4 I.sz,I.stack,I.stkFree,I.hok,I.bare)
theorem Inv.after{Q:VK}{u:Value}(I:Inv X π σ H s)(h:CE X.stack X.prog X.w H s Q u s'):EP X π σ Q u s':=by
 obtain⟨v,k,i,a,f,e,r,q⟩:=h;obtain⟨j,g,d,t,c⟩:=s';obtain rfl:c=s.os:=i;exact(v,k,I.call (h':=j) (g':=g) (d':=d) (t':=t) (ch:=[]) f e a (λb z=>absurd z (by simp)),r,q)
end
def J1(b:Sp)(c:List V)(E:XK)(Q:VK):List V->Hp->Prop:=λa d=>b (a++c) d Q E
def K5(b:Sp)(c:List V)(E:XK)(t:TA):TE:=λ a H Q=>t a H (J1 b c E Q)
def Binds(K:PySem.W.Frag)(fd:FuncData)(ps:List Str)(ds:List Value):Prop:=
 ∀(s:Shared) (a:List Value),K.In s.heap->(a++ds).length=ps.length->BindsTo s fd (a,[]) (ps.zip (a++ds))
theorem Binds.all{fd:FuncData}{ps:List Str}(h:∀a:List Value,a.length=ps.length->bindArgs fd (a,[])=pure (ps.zip a)):Binds K fd ps []:=λs a _ b=>by
 rw[agJ]at b ⊢;exact .of_eq (h a b)
def qQ(d:Uh)(X:Cx)(E:XK):Prop:=∀(c:List (Addr×Obj)) (b:St) (H:Hp) (s:Shared) (e:Value) (a:Shared),Inv X c b H s->d X.stack H s E e a->X.xe e a
section
variable{k:Nat}{Va:List V}{ds:List Value}{E:XK}{m:Str}{pos:Pos}{es:List Expr}
theorem Pn{σ:St}{s:Shared}{Q:VK}{a:List Value}(F:aV X.prog X.w X.K X.mg X.base CX k f fd ps sp)(i:dX k X.A)(n:Binds X.K fd ps ds)(hd:Vals Va ds)(g:qQ CX X E)
  (I:Inv X π σ H s)(r:Vals l a)(h:sp (l++Va) H Q E):wpAny (model X.prog X.w) X.A (call (.ref f) a) (EP X π σ Q) X.xe s:=by
 have c:Vals (l++Va) (a++ds):=r.append hd;have j:(a++ds).length=ps.length:=by rw[<-c.length];exact F.len _ _ _ _ h
 refine wpAny_call (codeAny_mono (F.run X.A X.stack s H (a,[]) (a++ds) (l++Va) Q E i I.env0 (n s a I.Ug j) c h) λr d b=>?_);cases r with
 | error e=>exact g π σ H s e d I b
 | ok q =>
  cases q with
  | ret u=>exact I.after b
  | next=>exact False.elim b
  | brk=>exact False.elim b
  | cont=>exact False.elim b
theorem Mq(F:aV X.prog X.w X.K X.mg X.base CX k f fd ps sp)(j:dX k X.A)(u:Gl X x)(l:X.mg x=some (.ref f))(n:PySem.W.keepIn X.K (.ref f)=true)(y:Binds X.K fd ps ds)(hd:Vals Va ds)(i:qQ CX X E)
  (z:PA X (e::es) t)(b:(x == ("__debug__" : Str))=false:=by decide)(v:starEach (e::es) X.env=(pq false (eval e X.env))::starEach es X.env:=by rfl)(a:(backTo pos (starEach es X.env)).any (·.1)=false:=by rfl):
  PE X (.Call (.Name x p) (e::es) [] pos) (K5 sp Va E t):=by
 intro g s d H Q I h;refine wpAny_Call_Name_kw (yX I u l ?_ b);refine PySem.W.callWith_K (h₀:=X.base) I.ok.mod.WF n (S5 (z pos g s d H _ I h) λD G ⟨B,J,c,r,q⟩=>(c.Ug,?_)) v a;exact Pn F j y hd i c r q
end
section
variable{k:Nat}{ks:List Str}{E:XK}{m:Str}{pos kpos:Pos}{es:List Expr}{kws:List Keyword}{tk:TA}{nm:Option Str}
variable{g:List Value->List Value->List Value}{gV:List V->List V->List V}
end
structure aC(N P:List Str)(sc:Scope):Prop where
 kind:sc.kind=.function
 co:sc.isCoroutine=false
 gen:sc.isGenerator=false
 nd:N.Nodup
 pre:N.take P.length=P
 Vn:∀x∈P,sc.names.lookup x=some .local\/sc.names.lookup x=some .cell
 nofree:∀y∈sc.names,y.2 ≠ .free
def scB(N P:List Str)(a:Scope):Bool:=decide (a.kind=.function) && (!a.isCoroutine && (!a.isGenerator && (decide N.Nodup && (decide (N.take P.length=P) && (P.all (λx=>decide (a.names.lookup x=some .local\/a.names.lookup x=some .cell)) && a.names.all λy=>decide (y.2 ≠ .free))))))
theorem S8{N P:List Str}(h:scB N P scope=true):aC N P scope:=by
 simp only[scB,agV,decide_eq_true_eq,ag8,aiu]at h;exact(h.1,h.2.1,h.2.2.1,h.2.2.2.1,h.2.2.2.2.1,h.2.2.2.2.2.1,h.2.2.2.2.2.2)
theorem xW{a:Str->Option NameKind}{x:Str}:∀{binds:List (Str×Value)} {m:Str->Option Value},(∀v,(pq x v)∉binds)->bindL a binds m x=m x
 | [],_,_=>rfl
 | (n,v)::r,m,h=>by
  unfold bindL;rw[xW λw b=>h w (aaL _ b)];split
  ·have:x≠n:=by rintro rfl;exact h v aa5
   simp[this]
  ·rfl
theorem xZ{a:Str->Option NameKind}{x:Str}:∀{binds:List (Str×Value)} {m:Str->Option Value},(∀v,(pq x v)∉binds)->bindC a binds m x=m x
 | [],_,_=>rfl
 | (n,v)::r,m,h=>by
  unfold bindC;rw[xZ λw b=>h w (aaL _ b)];split
  ·rfl
  ·have:x≠n:=by rintro rfl;exact h v aa5
   simp[this]
theorem ye{a:Str->Option NameKind}{x:Str}{v:Value}:∀{P:List Str}{b:List Value}{i:Nat}{m:Str->Option Value},P.Nodup->P[i]?=some x->b[i]?=some v->a x=some .local ->
  bindL a (P.zip b) m x=some v
 | [],_,_,_,_,h,_,_=>by simp at h
 | _::_,[],_,_,_,_,h,_=>by simp at h
 | p::P,w::b,0,m,e,d,c,f=>by
  simp at d c;subst d;subst c;show bindL a ((pq p w)::P.zip b) m p=_;unfold bindL;rw[xW λv g=>(aga.mp e).1 (agK g).1,if_pos f];simp
 | p::P,w::b,i+1,m,e,d,c,f=>by
  show bindL a ((pq p w)::P.zip b) m x=_;unfold bindL;exact ye (i:=i) (aga.mp e).2 (by simpa using d) (by simpa using c) f
theorem yg{a:Str->Option NameKind}{x:Str}{v:Value}:∀{P:List Str}{b:List Value}{i:Nat}{m:Str->Option Value},P.Nodup->P[i]?=some x->b[i]?=some v->a x≠some .local ->
  bindC a (P.zip b) m x=some v
 | [],_,_,_,_,h,_,_=>by simp at h
 | _::_,[],_,_,_,_,h,_=>by simp at h
 | p::P,w::b,0,m,e,d,c,f=>by
  simp at d c;subst d;subst c;show bindC a ((pq p w)::P.zip b) m p=_;unfold bindC;rw[xZ λv g=>(aga.mp e).1 (agK g).1,if_neg f];simp
 | p::P,w::b,i+1,m,e,d,c,f=>by
  show bindC a ((pq p w)::P.zip b) m x=_;unfold bindC;exact yg (i:=i) (aga.mp e).2 (by simpa using d) (by simpa using c) f
def start(N:List Str)(a:List V):St:=a.map some++aaB (N.length - a.length) none
def gZ(h:Uh)(P:Program)(w:World)(K:PySem.W.Frag)(mg:Str->Option Value)(base:Heap)(N:List Str)(c:Str)(a:Scope)(f:Addr)(g:Value)(A:Around)(b:List Env)(s:Shared)(H:Hp)(E:XK):Cx where
 prog:=P
 w:=w
 K:=K
 mg:=mg
 base:=base
 A:=A.deeper (envOfC c a s.heap.objs.size f g)
 N:=N
 s₀:=s
 H₀:=H
 env:=envOfC c a s.heap.objs.size f g
 outer:=b
 stack:=envOfC c a s.heap.objs.size f g::b
 ex:=[]
 calm:=true
 fn:=λ_=>true
 pn:=[]
 xe:=λe i=>wpAny (model P w) (A.deeper (envOfC c a s.heap.objs.size f g)) (leaving (envOfC c a s.heap.objs.size f g) e) (λ_ d=>h b H s E e d) (λj d=>h b H s E j d) i
theorem Ce{n:Nat}{x:Str}(h:scope.names.lookup x=some .cell):∃c,(cellsFrom n scope.names []).lookup x=some c:=by
 have q:=PySem.W.cellsFrom_some scope.names n [] (.inl h);exact ahE.mp q
theorem yC{P:Program}{w:World}{mg:Str->Option Value}{base:Heap}{N ps:List Str}{f:Addr}{A:Around}{s F:Shared}{E:XK}{C:List Value}
  (S:aC N ps scope)(hd:A.handled=none)(j:EY P w K mg base A outer s H)(R:l.length=ps.length)(r:Vals l C)
  (x:InCallC s s.heap.objs.size (bindL (envOfC qual scope s.heap.objs.size f q).kindOf (ps.zip C) λ_=>none) (cellsFrom (s.heap.objs.size+1) scope.names []) (bindC (envOfC qual scope s.heap.objs.size f q).kindOf (ps.zip C) λ_=>none) F):
  Inv (gZ CX P w K mg base N qual scope f q A outer s H E) [] (start N l) H F:=by
 have O:ps.length<=N.length:=by have:=congrArg af7 S.pre;rw[aaI]at this;lia
 obtain⟨B,Q,rfl,I⟩:=x.done;have D:∀b:Addr,b∉(gZ CX P w K mg base N qual scope f q A outer s H E).ex:=λb z=>absurd (show b∈([]:List Addr)from z) (by simp);refine((j.mod,S.kind,rfl,rfl,aac _,λy z c B g=>?_,λy m=>?_,λy c _ h=>?_,λ_=>hd,Around.frames_deeper j.frames,.inr (rfl,rfl),λb z=>absurd z (D b),j.bs,j.U4,λb _ _=>D b,λb z=>absurd z (D b),j.funs,j.Vh),
  rfl,j.bare,Un.kept I,(_,x.toInCall.ns,λi y v B g T=>?_),λy c h=>(_,x.cell y c h),j.hok.fresh (aac _),λy c h=>?_,λp o=>absurd (show p∈([]:List (Addr×Obj))from o) (by simp),j.hok.kept I,?_)
 ·exact name_of_addr x.apart (PySem.mem_of_lookup B) (PySem.mem_of_lookup g)
 ·have m:scope.names.lookup y=some .cell\/scope.names.lookup y=some .free:=m;rcases m with m|m
  ·exact Ce m
  ·exact absurd rfl (S.nofree _ (PySem.mem_of_lookup m))
 ·exact adi (x.above y c (PySem.mem_of_lookup h))
 ·have t:i<l.length:=by
   unfold start at g;by_cases t:i<l.length
   ·exact t
   ·rw[aaz (by simpa using t)]at g;rw[agh]at g;split at g <;> cases g
  have M:l[i]?=some v:=by
   unfold start at g;rw[aaw (by simpa using t),aah]at g;cases e:l[i]? with
   | none=>rw[e]at g;cases g
   | some a=>rw[e]at g;cases g;rfl
  obtain⟨u,G,L⟩:=r.get M;have o:ps[i]?=some y:=by
   rw[<-S.pre,afA (by lia)];exact B
  have J:ps.Nodup:=by rw[<-S.pre];exact S.nd.sublist (agv _ _)
  exists u,L;rcases S.Vn y (aag o)with k|k
  ·exact .inl (k,ye J o G k)
  ·obtain⟨c,e⟩:=Ce (n:=s.heap.objs.size+1) k;refine .inr (.inl k,c,e,?_);have d:=x.cell y c e;rw[yg J o G (by show scope.names.lookup y≠_;rw[k];decide)]at d;exact d
 ·exact j.hok.fresh (adi (x.above y c (PySem.mem_of_lookup h)))
 ·unfold start;show _=N.length;rw[aaf,aaa,abt];lia
theorem OD{P:Program}{w:World}{mg:Str->Option Value}{base:Heap}{k:Nat}{f:Addr}{name :Str}{h:Arguments}{i:List Stmt}{kV G Y g Z oc:Value}{an od:Option Addr}
  {R:Array (Option Value)}{N ps:List Str}(lk:K.lookup f=some (oc,od,.func (PySem.W.fnOf name x h i scope q kV G Y an g Z),R))(U:PySem.W.codeIn K g x=true)(S:aC N ps scope)
  (C:∀j H Q E,sp j H Q E->j.length=ps.length)
  (p:∀(A:Around) (d:List Env) (s:Shared) (H:Hp) (j:List V) (Q:VK) (E:XK),dX k (A.deeper (envOfC x scope s.heap.objs.size f g))->sp j H Q E ->
   ∃t,Ub (gZ CX P w K mg base N x scope f g A d s H E) i t/\t { nx:=λ_ H'=>Q .non H',rt:=Q } (start N j) H):
  aV P w K mg base CX (k+1) f (PySem.W.fnOf name x h i scope q kV G Y an g Z) ps sp:=by
 refine(C,λA d s H a0 us j Q E O B hb r D=>?_);have hl:=C _ _ _ _ D;have KX:K.In s.heap:=B.mod.WF.keeps λb o e=>(B.bs b o e).1;have T:s.heap.NoLimit:=B.mod.nolimit.keeps λb o e=>(B.bs b o e).1;have m:∀y∈ps.zip us,scope.names.lookup y.1=some .local\/(scope.names.lookup y.1=some .cell/\((cellsFrom (s.heap.objs.size+1) scope.names []).lookup y.1).isSome=true):=λ⟨n,v⟩ hy=>by
  rcases S.Vn n (agK hy).1 with c|c
  ·exact .inl c
  ·exact .inr (c,PySem.W.cellsFrom_some _ _ _ (.inl c))
 refine codeAny_call_function O.depth (KX _ _ lk) rfl S.co S.gen rfl (PySem.W.codeRec_of KX U) (hb _ _ _ _ ?_);refine wpAny_newFunctionEnv_cells S.kind m λa1 he X a=>?_;subst he;refine(T.keeps a.toInCall.keep,codeAny_func ?_);obtain⟨t,ht,hq⟩:=p A d s H j Q E (O.deeper _) D;have I:Inv (gZ CX P w K mg base N x scope f g A d s H E) [] (start N j) H X:=yC S O.hd B hl r a;refine wpAny_mono (ht [] X (start N j) H _ I hq) (λfl L z=>?_) λe L z=>z;have F:∀{l:St}{H':Hp}{v:V}{u:Value},Inv (gZ CX P w K mg base N x scope f g A d s H E) [] l H' L->RelV v u->Q v H'->CE d P w H s Q u L:=
  λ{l H' v u} J M c=>(v,H',J.os,J.bare,J.base,J.hok,M,c)
 cases fl with
 | ret u =>
  obtain⟨v,l,H',J,M,c⟩:=z;exact F J M c
 | next =>
  obtain⟨l,H',J,c⟩:=z;exact F (v:=V.non) (u:=Value.none) J rfl c
 | brk =>
  obtain⟨_,_,_,c⟩:=z;exact False.elim c
 | cont =>
  obtain⟨_,_,_,c⟩:=z;exact False.elim c
section
variable{pos:Pos}{es:List Expr}{id T:String}{r:List V->Hp->VK->Prop}
def Pk(r:List V->Hp->VK->Prop)(Q:VK):List V->Hp->Prop:=λa b=>r a b Q
def tCB(r:List V->Hp->VK->Prop)(t:TA):TE:=λ a H Q=>t a H (Pk r Q)
theorem aK(u:gn X (.builtin id) r)(o:Gl X x)(n:X.mg x=none)(l:bootBuiltins x=some (.builtin id))(v:PA X (e::es) t)(m:x ≠ "__name__":=by decide)(b:(x == ("__debug__" : Str))=false:=by decide)
  (q:starEach (e::es) X.env=(pq false (eval e X.env))::starEach es X.env:=by rfl)(a:(backTo pos (starEach es X.env)).any (·.1)=false:=by rfl):PE X (.Call (.Name x p) (e::es) [] pos) (tCB r t):=by
 intro d s c H Q I h;refine wpAny_Call_Name_kw (dW I o n l ?_ m b);exact PyProof.Rows.callWith_builtin1 (S5 (v pos d s c H _ I h) λg i ⟨f,y,w,j,k⟩=>u d i c y f g Q w j k) q a
theorem cI(u:gn X (.type T) r)(o:Gl X x)(n:X.mg x=none)(l:bootBuiltins x=some (.type T))(v:PA X (e::es) t)(m:x ≠ "__name__":=by decide)(b:(x == ("__debug__" : Str))=false:=by decide)
  (q:starEach (e::es) X.env=(pq false (eval e X.env))::starEach es X.env:=by rfl)(a:(backTo pos (starEach es X.env)).any (·.1)=false:=by rfl):PE X (.Call (.Name x p) (e::es) [] pos) (tCB r t):=by
 intro d s c H Q I h;refine wpAny_Call_Name_kw (dW I o n l ?_ m b);exact PyProof.Rows.callWith_type1 (S5 (v pos d s c H _ I h) λg i ⟨f,y,w,j,k⟩=>u d i c y f g Q w j k) q a
end
end L2
section
open PySem L2
variable{s:Shared}{w:World}{A:Around}{E:Value->Shared->Prop}{prog:Program}{π:List (Addr×Obj)}{e o tg b:Expr}{K:PySem.W.Frag}{a f C S c dx Pt:Addr}{h' base h:Heap}{mg:Str->Option Value}{x qual name:Str}{N ps:List Str}{scope:Scope}{fd:FuncData}{p apos:Pos}{st:Stmt}{outer:List Env}{R:Result->Shared->Prop}{n i U:Nat}{d M:List Int}{g:Array Keyed}{j:List Addr}{m:Int}{q:Value}{r:List Value}{u:List Nat}{v:List Expr}{y:List (Str×Addr)}{z:List (List Nat)}{D:List (Str×Nat)}{G:SortSt}{I:Array Value}{J:SetTable}{O:Type}{Q:Option Value->Shared->Prop}{T:Value->Addr->Result->Shared->Prop}{Y:List (Int×Value)}{Z:Option Nat->SortSt->Prop}{X:Cx}{H H':Hp}{σ:St}{ta tb te:TE}{t:TA}{sp:Sp}{CX:Uh}{l:List V}{B:Addr->Hp->Prop}
namespace HT
open PyProof.Rows
section
open PySem.SeqAt
open PySem.AutoSeq1 (wpAny_loadPart')
open PySem.MeetsSeq PySem.MeetsSeq2 PySem.MeetsSeq3
end
section
def Tu(n d:Nat):Option Int->Nat
 | none=>d
 | some v=>if v<0 then (v+(n:Int)).toNat else min v.toNat n
theorem lu(n d:Nat):Tu n d none=d:=rfl
theorem jT(n d k:Nat):Tu n d (some (k:Int))=min k n:=by
 show (if (k:Int)<0 then ((k:Int)+(n:Int)).toNat else min (k:Int).toNat n)=min k n;rw[if_neg (by lia),abS]
theorem QK(n d:Nat)(hd:d<=n)(o:Option Int):Tu n d o<=n:=by
 cases o with
 | none=>exact hd
 | some v =>
  show (if v<0 then (v+(n:Int)).toNat else min v.toNat n)<=n;by_cases a:v<0
  ·rw[if_pos a];lia
  ·rw[if_neg a];exact aiv _ _
end
end HT
namespace L2
open PySem.Spec PyProof.Rows
abbrev TO:=St->Hp->(Option Int->Hp->Prop)->Prop
def PO(X:Cx)(e:Option Expr)(t:TO):Prop:=
 ∀(b:List (Addr×Obj)) (s:Shared) (a:St) (H:Hp) (Q:Option Int->Hp->Prop),Inv X b a H s->t a H Q ->
  wpAny (model X.prog X.w) X.A (evalPart e X.env) (λu d=>∃o c,Inv X b a c d/\IsPart u o/\Q o c) X.xe s
def Oo:TO:=λ_ H Q=>Q none H
inductive Mi(Q:Option Int->Hp->Prop)(x:V)(H1:Hp):Prop
 | mk (i:_) (_:x=.int i) (_:Q (some i) H1)
def Rk(t:TE):TO:=λ a H Q=>t a H (Mi Q)
theorem intsAre_of:∀{a:List Value},Vals (d.map V.int) a->IntsAre a d:=by
 induction d with
 | nil=>intro a r;rw[ahc]at r;cases r;exact .nil
 | cons n d f =>
  intro a r;rw[aaA]at r;cases r with
  | cons c b =>
   obtain⟨t,e⟩:=c;subst e;exact .cons n t (f b)
section
variable{lo hi:Option Expr}{tl th:TO}{pos p2:Pos}
theorem dB:PO X none Oo:=by
 intro b s a H Q I h;rw[evalPart_none];exact wpAny_pure (none,H,I,.none,h)
theorem cO(h:PE X e te):PO X (some e) (Rk te):=by
 intro b s a H Q I f;rw[evalPart_some];refine S5 (h b s a H _ I f) λu k ⟨x,j,g,c,d⟩=>?_;obtain⟨i,rfl,q⟩:=d;obtain⟨t,rfl⟩:=c;exact(some i,j,g,.int i t,q)
def Xo(X:Cx)(r:V->Option Int->Option Int->Hp->VK->Prop):Prop:=
 ∀(b:List (Addr×Obj)) (s:Shared) (a:St) (H:Hp) (x:V) (v d c:Value) (lo hi:Option Int) (f:Addr) (Q:VK),Inv X b a H s->RelV x v->s.heap.IsSliceOf f d c .none->IsPart d lo->IsPart c hi->r x lo hi H Q ->
  ∃T g,typeLookup (.type T) "__getitem__" = pure (some (.builtin g))/\s.TypeIs v T/\wpAny (model X.prog X.w) X.A (getItem v (.ref f)) (EP X b a Q) X.xe s
def PK(r:V->Option Int->Option Int->Hp->VK->Prop)(Q:VK)(x:V)(l:Option Int):Option Int->Hp->Prop:=λu a=>r x l u a Q
def QS(r:V->Option Int->Option Int->Hp->VK->Prop)(th:TO)(σ:St)(Q:VK)(x:V):Option Int->Hp->Prop:=λl a=>th σ a (PK r Q x l)
def Pr(r:V->Option Int->Option Int->Hp->VK->Prop)(tl:TO)(th:TO)(σ:St)(Q:VK):VK:=λx a=>tl σ a (QS r th σ Q x)
def tSl(r:V->Option Int->Option Int->Hp->VK->Prop)(te:TE)(tl th:TO):TE:=λ a H Q=>te a H (Pr r tl th a Q)
theorem cC{r:V->Option Int->Option Int->Hp->VK->Prop}(B:Xo X r)(E:PE X e te)(C:PO X lo tl)(z:PO X hi th):PE X (.Subscript e (.Slice lo hi none p2) pos) (tSl r te tl th):=by
 intro d s c H Q I h;refine Subscript_ (S5 (E d s c H _ I h) λv k ⟨x,N,L,m,p⟩=>?_);refine wpAny_Slice (S5 (C d k c N _ L p) λg j ⟨l,M,K,y,o⟩=>S5 (z d j c M _ K o) λf a ⟨u,i,J,t,n⟩=>?_);rw[evalPart_none];refine wpAny_pure ?_
 have G:Inv X d c i { a with heap:=a.heap.push { cls:=.type "slice",data:=.fields #[g,f,.none] } }:=J.kept (t':=a.toks) λb O q=>Heap.get?_push_of_some _ q
 obtain⟨T,P,F,ht,D⟩:=B d { a with heap:=a.heap.push { cls:=.type "slice",data:=.fields #[g,f,.none] } } c i x v g f l u a.heap.objs.size Q G m (Heap.IsSliceOf.new ..) y t n
 show wpAny (model X.prog X.w) X.A (subscriptTail e (.Slice lo hi none p2) v (.ref a.heap.objs.size)) (EP X d c Q) X.xe { a with heap:=a.heap.push { cls:=.type "slice",data:=.fields #[g,f,.none] } }
 exact tail_any (ops:=[.ref a.heap.objs.size,v]) ht F D (by with_unfolding_all rfl)
def fB(xs:List V)(lo hi:Option Int):List V:=(xs.drop (HT.Tu xs.length 0 lo)).take (HT.Tu xs.length xs.length hi - HT.Tu xs.length 0 lo)
theorem sr(xs:List V)(lo hi:Option Int):(fB xs lo hi).length<=xs.length:=by
 unfold fB;rw[aaI,abU];lia
end
def U5(n:Nat)(i:Int):Option Nat:=if 0<=i then (if i<n then some i.toNat else none)else if -(n:Int)<=i then some (i+n).toNat else none
def Tz{a:Type}(xs:List a)(i:Int):Option a:=(U5 xs.length i).bind λj=>xs[j]?
theorem GF{n:Nat}{i:Int}{j:Nat}(h:U5 n i=some j):seqIndex? i n=some j/\j<n /\ -(n:Int)<=i/\i<n:=by
 unfold U5 at h;by_cases b:0<=i
 ·rw[if_pos b]at h;by_cases a:i<n
  ·rw[if_pos a]at h;have e:i.toNat=j:=aap h;exact(by rw[seqIndex_of b a,e],by lia,by lia,a)
  ·rw[if_neg a]at h;cases h
 ·rw[if_neg b]at h;by_cases a : -(n:Int)<=i
  ·rw[if_pos a]at h;have e:(i+n).toNat=j:=aap h;exact(by rw[seqIndex_neg (by lia) a,e],by lia,a,by lia)
  ·rw[if_neg a]at h;cases h
theorem zP{xs:List O}{i:Int}{v:O}(h:Tz xs i=some v):∃j,seqIndex? i xs.length=some j/\xs[j]?=some v/\j<xs.length /\ -(xs.length:Int)<=i/\i<xs.length:=by
 unfold Tz at h;cases e:U5 xs.length i with
 | none=>rw[e]at h;cases h
 | some j =>
  rw[e]at h;obtain⟨d,c,b,a⟩:=GF e;exact(j,d,h,c,b,a)
theorem mY{xs:List O}{j:Nat}{v:O}(h:xs[j]?=some v):Tz xs (j:Int)=some v:=by
 have a:j<xs.length:=(aab.mp h).1;have e:U5 xs.length (j:Int)=some j:=by
  unfold U5;rw[if_pos (by lia),if_pos (by lia)];simp
 unfold Tz;rw[e];exact h
theorem lA(xs:List O)(v:O):Tz (xs++[v]) (-1)=some v:=by
 have a:(xs++[v]).length=xs.length+1:=by simp
 have e:U5 (xs++[v]).length (-1)=some xs.length:=by
  unfold U5;rw[a,if_neg (by decide),if_pos (by lia)];congr 1;lia
 unfold Tz;rw[e];show (xs++[v])[xs.length]?=some v;simp
def N8(b:Expr):Prop:=∀o i,subscripted b false o i=operate [o,i] (getItem o i)
def Xp(X:Cx)(r:R2):Prop:=
 ∀(b a:Expr) (d:List (Addr×Obj)) (s:Shared) (c:St) (H:Hp) (x y:V) (v u:Value) (Q:VK),Inv X d c H s->RelV x v->RelV y u->r x y H Q ->
  subscripted a false v u=operate [v,u] (getItem v u)->wpAny (model X.prog X.w) X.A (subscriptTail b a v u) (EP X d c Q) X.xe s
def Xq(X:Cx)(id:String)(r:V->List V->Hp->VK->Prop):Prop:=
 ∀(b:List (Addr×Obj)) (s:Shared) (a:St) (H:Hp) (x:V) (c:List V) (v:Value) (d:List Value) (Q:VK),Inv X b a H s->RelV x v->Vals c d->r x c H Q ->
  wpAny (model X.prog X.w) X.A (call (.builtin id) (v::d)) (EP X b a Q) X.xe s
section
variable{a:Expr}{pos:Pos}
theorem aW{r:R2}(j:Xp X r)(l:PE X a ta)(k:PE X b tb)(i:N8 b:=by exact λ_ _=>rfl):PE X (.Subscript a b pos) (WQ r ta tb):=by
 intro d s c H Q I h;exact Subscript_ (Pa l k I h λv u e x y n m g f q=>j a b d e c n x y v u Q m g f q (i _ _))
inductive Sx(K:PySem.W.Frag)(x:V)(y:V)(H:Hp)(Q:VK):Prop
 | mk (p xs i v:_) (_:x=.ref p) (_:y=.int i) (_:My K H p xs) (_:Tz xs i=some v) (_:Q v H)
inductive SM(K:PySem.W.Frag)(x:V)(y:V)(H:Hp)(Q:VK):Prop
 | mk (p xs i v:_) (_:x=.ref p) (_:y=.int i) (_:S7 K H p xs) (_:Tz xs i=some v) (_:Q v H)
inductive SJ(x:V)(y:V)(H:Hp)(Q:VK):Prop
 | mk (z i c:_) (_:x=.str z) (_:y=.int i) (_:z.length<=sizeLine) (_:Tz z.cps.toList i=some c) (_:Q (.str ⟨#[c]⟩) H)
theorem ig:Xp X (Sx X.K):=by
 intro k l n s m H x y v u Q I E D h o;obtain⟨p,P,i,z,rfl,rfl,F,J,q⟩:=h;cases E;obtain⟨t,rfl⟩:=D;obtain⟨g,r,e,R⟩:=I.list F;obtain⟨j,d,N,T,M,L⟩:=zP J;obtain⟨w,B,O⟩:=r.get N;have G:=r.length;have S:=rA;have c:EP X n m Q w s:=(z,H,I,O,q);by_cases A:0<=i
 ·have f:i.toNat=j:=by
   rw[seqIndex_of A L]at d;exact aap d
  exact item_listR e.isList A (by lia) (by rw[f];simpa using B) c o
 ·have f:(i+(g.toArray.size:Int)).toNat=j:=by
   rw[seqIndex_neg (by lia) M]at d;rw[aax,<-G];exact aap d
  exact subscriptTail_builtinR (x:=w) e.isList.typeIs slot_list_getitem.lookup
   (wpAny_getItem_list_neg (Q:=λr C=>r=w/\EP X n m Q r C) e.isList (by lia) (by rw[aax] <;> lia) (by lia) (by rw[f];simpa using B) (rfl,c)) o
theorem aU:Xp X (SM X.K):=by
 intro d e g s f H x y v u Q I n m h o;obtain⟨p,L,i,z,rfl,rfl,A,C,q⟩:=h;cases n;obtain⟨t,rfl⟩:=m;obtain⟨J,r,k,M⟩:=I.tuple A;obtain⟨j,E,D,R,P,O⟩:=zP C;obtain⟨w,F,G⟩:=r.get D;have B:=r.length;have N:=rA;have c:EP X g f Q w s:=(z,H,I,G,q);exact subscriptTail_builtinR (x:=w) k.typeIs slot_tuple_getitem.lookup
  (getItem_tuple (j:=j) (Q:=λr l=>r=w/\EP X g f Q r l) k (by lia) (by lia) (by rw[aax,<-B];exact E) (by simpa using F) (rfl,c)) o
theorem Ga:Xp X SJ:=by
 intro d e C s B H x y v u Q I k g h l;obtain⟨z,i,c,rfl,rfl,E,n,q⟩:=h;obtain⟨t,rfl⟩:=k;obtain⟨D,rfl⟩:=g;obtain⟨j,f,r,G,p,o⟩:=zP n;have m:z.cps.toList.length=z.length:=by simp[Str.length]
 rw[m]at f p o;have F:=rA;exact tail_any (typeIs_str s z t) slot_str_getitem.lookup (getItem_str (c:=c) (by
  have A:decide (i < -(2^63:Int))=false:=decide_eq_false (by lia);have w:decide (i >= 2^63)=false:=decide_eq_false (by lia);rw[A,w,ahJ]) (by rw[f];simpa using r) (.str ⟨#[c]⟩,H,I.tok _,(_,rfl),q)) l
theorem Et(c:List Value)(n j:Nat)(u:Value):Obj.mapSeq (·.setIfInBounds j u) { cls:=.type "list",data:=.seq c.toArray n }={ cls:=.type "list",data:=.seq (c.set j u).toArray n }:=by
 simp[Obj.mapSeq]
theorem Inv.lst{σ:St}{s:Shared}{p:Addr}{xs:List V}(I:Inv X π σ H s)(h:H p=some (.lst xs)):
  ∃(c:List Value) (n:Nat),Vals xs c/\s.heap.get? p=some { cls:=.type "list",data:=.seq c.toArray n }/\xs.length<=sizeLine:=by
 obtain⟨z,c,n,r,e⟩:=I.hok p _ h;exact(c,n,r,e,z)
theorem Inv.lstUpd{σ:St}{s:Shared}{p:Addr}{xs ys:List V}{c its':List Value}{n :Nat}{f:Obj->Obj}(I:Inv X π σ H s)(h:H p=some (.lst xs))
  (g:s.heap.get? p=some { cls:=.type "list",data:=.seq c.toArray n })(d:f { cls:=.type "list",data:=.seq c.toArray n }={ cls:=.type "list",data:=.seq its'.toArray i })(r:Vals ys its')(hz:ys.length<=sizeLine)(t:Nat):
  Inv X π σ (upd H p (.lst ys)) { s with heap:=s.heap.update p f,toks:=t }:=by
 have e:(s.heap.update p f).get? p=some { cls:=.type "list",data:=.seq its'.toArray i }:=by
  rw[Heap.get?_update_self f g (by rw[d] <;> rfl),d]
 refine I.write (x:=p) (e:=p) (by rw[h];trivial) (.inl rfl) (λb u j q=>(Heap.get?_update_other _ _ (ae2 j)).trans q) (_,e) ?_;exact(hz,its',i,r,e)
inductive Rj(o:V)(i:V)(v:V)(H:Hp)(Q:Hp->Prop):Prop
 | mk (p xs k j:_) (_:o=.ref p) (_:i=.int k) (_:H p=some (.lst xs)) (_:U5 xs.length k=some j) (_:Q (upd H p (.lst (xs.set j v))))
theorem set_list:Ry X Rj:=by
 intro A s z H o i v J K u Q I D E C h;obtain⟨p,B,k,j,rfl,rfl,l,G,q⟩:=h;cases D;obtain⟨t,rfl⟩:=E;obtain⟨c,n,r,e,F⟩:=I.lst l;obtain⟨d,M,w,m⟩:=GF G;have f:=r.length;have L:=rA;have y:Inv X A z (upd H p (.lst (B.set j v))) { s with heap:=s.heap.update p (Obj.mapSeq (·.setIfInBounds j u)) }:=
  I.lstUpd l e (Et c n j u) (r.set C j) (by rw[aiB];exact F) s.toks
 by_cases x:0<=k
 ·have g:k.toNat=j:=by
   rw[seqIndex_of x m]at d;exact aap d
  exact PySem.W.ki_setAt e x (by lia) (by rw[aax,<-f];exact m) (by rw[g];exact(_,y,q))
 ·have g:(k+(c.toArray.size:Int)).toNat=j:=by
   rw[seqIndex_neg (by lia) w]at d;rw[aax,<-f];exact aap d
  exact PySem.W.ki_setBack e (by lia) (by rw[aax,<-f];exact w) (by lia) (by rw[g];exact(_,y,q))
theorem zg(lo c:Option Int)(n:Nat):(sliceBounds lo c none n).1=((HT.Tu n 0 lo:Nat):Int)/\(sliceBounds lo c none n).2.1=((HT.Tu n n c:Nat):Int)/\(sliceBounds lo c none n).2.2=1:=by
 refine(?_,?_,rfl)
 ·cases lo with
  | none=>simp[sliceBounds,HT.Tu]
  | some i =>
   simp only[sliceBounds,HT.Tu,aiw,show (1:Int) > 0 by decide,if_true];by_cases h:i<0
   ·simp only[h,if_true] <;> lia
   ·simp only[h,if_false] <;> lia
 ·cases c with
  | none=>simp[sliceBounds,HT.Tu]
  | some i =>
   simp only[sliceBounds,HT.Tu,aiw,show (1:Int) > 0 by decide,if_true];by_cases h:i<0
   ·simp only[h,if_true] <;> lia
   ·simp only[h,if_false] <;> lia
theorem wA(c:List Value)(lo d:Option Int):slicePick c.toArray lo d none=((c.drop (HT.Tu c.length 0 lo)).take (HT.Tu c.length c.length d - HT.Tu c.length 0 lo)).toArray:=by
 obtain⟨g,f,e⟩:=zg lo d c.toArray.size;unfold slicePick;rw[g,f,e];simp only[sliceRange_one,pick_run,aax] <;> rfl
inductive Rn(K:PySem.W.Frag)(x:V)(lo:Option Int)(hi:Option Int)(H:Hp)(Q:VK):Prop
 | mk (a xs:_) (_:x=.ref a) (_:My K H a xs) (_:∀p,H p=none->Q (.ref p) (upd H p (.lst (fB xs lo hi))))
theorem pP:Xo X (Rn X.K):=by
 intro t s p H x v w u e f y Q I g m j i h;obtain⟨a,c,rfl,l,q⟩:=h;cases g;obtain⟨n,r,ht,k⟩:=I.list l;have d:=r.length
 exists "list",_,slot_list_getitem.lookup,ht.isList.typeIs
 refine wpAny_getItem_list_slice ht.isList m j i .none (by simp) ?_ (by rw[aax] <;> lia);rw[wA,<-d];refine(.ref s.heap.objs.size,_,I.laid (t':=s.toks) (o:=.lst (fB c e f)) (λb z q=>Heap.get?_push_of_some _ q) (aac _) ?_,rfl,q _ (I.hok.fresh (aac _)));exact(adh (sr c e f) k,_,0,(r.drop (HT.Tu c.length 0 e)).take (HT.Tu c.length c.length f - HT.Tu c.length 0 e),Heap.get?_push_size _ rfl)
def oJ:V->Bool
 | .non=>true
 | .bl _=>true
 | .int _=>true
 | .str _=>true
 | _=>false
def U6:V->V->Bool
 | .non,.non=>true
 | .bl a,.bl b=>a == b
 | .bl a,.int b=>(if a then 1 else 0) == b
 | .int a,.bl b=>a == (if b then 1 else 0)
 | .int a,.int b=>a == b
 | .str a,.str b=>a == b
 | _,_=>false
theorem Px{A:Around}{s:Shared}{y x:V}{u v:Value}(e:RelV y u)(c:RelV x v)(g:oJ y=true)(f:oJ x=true):SeqAt.EqAt A s u v (U6 y x):=by
 cases y with
 | non =>
  cases e;cases x with
  | non=>cases c;exact SeqAt.EqAt.same _
  | bl b=>cases c;exact SeqAt.EqAt.none_bool b
  | int b=>obtain⟨t,rfl⟩:=c;exact SeqAt.EqAt.none_int b t
  | str b=>obtain⟨t,rfl⟩:=c;exact SeqAt.EqAt.none_str b t
  | _=>exact absurd (show false=true from f) aar
 | bl a =>
  cases e;cases x with
  | non=>cases c;exact SeqAt.EqAt.bool_none a
  | bl b=>cases c;exact SeqAt.EqAt.bool_bool a b
  | int b=>obtain⟨t,rfl⟩:=c;exact SeqAt.EqAt.bool_int a b t
  | str b=>obtain⟨t,rfl⟩:=c;exact SeqAt.EqAt.bool_str a b t
  | _=>exact absurd (show false=true from f) aar
 | int a =>
  obtain⟨d,rfl⟩:=e;cases x with
  | non=>cases c;exact SeqAt.EqAt.int_none a d
  | bl b=>cases c;exact SeqAt.EqAt.int_bool a d b
  | int b=>obtain⟨t,rfl⟩:=c;exact SeqAt.EqAt.int_int a d b t
  | str b=>obtain⟨t,rfl⟩:=c;exact SeqAt.EqAt.int_str a d b t
  | _=>exact absurd (show false=true from f) aar
 | str a =>
  obtain⟨d,rfl⟩:=e;cases x with
  | non=>cases c;exact SeqAt.EqAt.str_none a d
  | bl b=>cases c;exact SeqAt.EqAt.str_bool a d b
  | int b=>obtain⟨t,rfl⟩:=c;exact SeqAt.EqAt.str_int a d b t
  | str b=>obtain⟨t,rfl⟩:=c;exact SeqAt.EqAt.str_str a d b t
  | _=>exact absurd (show false=true from f) aar
 | _=>exact absurd (show false=true from g) aar
def Vp(x:V)(u:Value):Bool:=match u with
 | .none=>U6 .non x
 | .bool b=>U6 (.bl b) x
 | .int i _=>U6 (.int i) x
 | .str z _=>U6 (.str z) x
 | _=>false
theorem JC{x y:V}{u:Value}(r:RelV y u)(f:oJ y=true):Vp x u=U6 y x:=by
 cases y with
 | non=>cases r;rfl
 | bl b=>cases r;rfl
 | int i=>obtain⟨t,rfl⟩:=r;rfl
 | str z=>obtain⟨t,rfl⟩:=r;rfl
 | _=>exact absurd (show false=true from f) aar
theorem yU{x:V}:∀{xs:List V}{c:List Value},Vals xs c->xs.all oJ=true->c.any (Vp x)=xs.any λy=>U6 y x
 | _,_,.nil,_=>rfl
 | y::xs,u::c,.cons r t,f=>by
  rw[aid,agV]at f;rw[agQ,agQ,JC r f.1,yU t f.2]
theorem vy{A:Around}{s:Shared}{x:V}{v:Value}(e:RelV x v)(g:oJ x=true):∀{xs:List V}{d:List Value},Vals xs d->xs.all oJ=true -> ∀u∈d,SeqAt.EqAt A s u v (Vp x u)
 | _,_,.nil,_=>λu c=>by cases c
 | y::xs,u::d,.cons r t,f=>λh c=>by
  rw[aid,agV]at f;rcases aaH.mp c with rfl|c
  ·rw[JC r f.1];exact Px r e f.1 g
  ·exact vy e g t f.2 h c
def inV(x:V)(xs:List V):Bool:=xs.any λy=>U6 y x
inductive rIn(K:PySem.W.Frag)(neg:Bool)(x:V)(y:V)(H:Hp)(Q:VK):Prop
 | mk (p xs:_) (_:y=.ref p) (_:(My K H p xs\/S7 K H p xs)) (_:oJ x=true) (_:xs.all oJ=true) (_:Q (.bl (if neg then !inV x xs else inV x xs)) H)
theorem oU:Tn X (compareOp .NotIn) (rIn X.K true):=by
 intro n s m H x y v u Q I i k h;obtain⟨p,o,rfl,d,j,e,q⟩:=h;cases k;rcases d with d|d
 ·obtain⟨c,r,f,l⟩:=I.list d;refine SeqAt.notIn_listAt (Vp x) f.isList (λw g=>vy i j r e w (by simpa using g)) (.bl _,H,I,rfl,?_);rw[show c.toArray.any (Vp x)=c.any (Vp x) by simp,yU r e];exact q
 ·obtain⟨c,r,f,l⟩:=I.tuple d;refine SeqAt.notIn_tupleAt (Vp x) f (λw g=>vy i j r e w (by simpa using g)) (.bl _,H,I,rfl,?_);rw[show c.toArray.any (Vp x)=c.any (Vp x) by simp,yU r e];exact q
theorem zy:Tn X (compareOp .NotIn) (λx y H Q=>∃i j,x=.str i/\y=.str j/\Q (.bl (!(!(Builtin.Str.occurrences j i 0 j.length 1).isEmpty))) H):=by
 intro f s e H x y v u Q I d c h;obtain⟨i,j,rfl,rfl,q⟩:=h;obtain⟨t,rfl⟩:=d;obtain⟨g,rfl⟩:=c;exact notIn_str (.bl _,H,I,rfl,q)
theorem aN:gn X (.builtin "len") (λxs H Q=>∃p ys,xs=[.ref p]/\(My X.K H p ys\/S7 X.K H p ys)/\Q (.int ys.length) H):=by
 intro l s k H xs m Q I r h;obtain⟨p,ys,rfl,d,q⟩:=h;obtain⟨u,rfl,i⟩:=vals1 r;cases i;have n:=rA;rcases d with d|d
 ·obtain⟨g,e,f,j⟩:=I.list d;have c:=e.length;exact Calls.call_len_list f.isList (by simp only[aax] <;> lia) (.int ys.length,H,I.tok _,(s.toks+1,by rw[aax,c]),q)
 ·obtain⟨g,e,f,j⟩:=I.tuple d;have c:=e.length;exact len_tuple f (by simp only[aax] <;> lia) (.int ys.length,H,I.tok _,(s.toks+1,by rw[aax,c]),q)
theorem bw:gn X (.builtin "len") (λxs H Q=>∃z,xs=[.str z]/\z.length<=sizeLine/\Q (.int z.length) H):=by
 intro d s c H xs e Q I r h;obtain⟨z,rfl,f,q⟩:=h;obtain⟨u,rfl,t,rfl⟩:=vals1 r;have g:=rA;exact len_str (by lia) (.int z.length,H,I.tok _,(_,rfl),q)
theorem kj:gn X (.type "list") (λxs H Q=>∃p ys,xs=[.ref p]/\(My X.K H p ys\/S7 X.K H p ys) /\ ∀l,H l=none->Q (.ref l) (upd H l (.lst ys))):=by
 intro B s A H xs D Q I r h;obtain⟨p,ys,rfl,k,q⟩:=h;obtain⟨u,rfl,C⟩:=vals1 r;cases C;have m:∀(c:List Value),Vals ys c->ys.length<=sizeLine -> ∀(d:Heap) (g:Nat),(∀b z,s.heap.get? b=some z->d.get? b=some z) ->
   d.get? s.heap.objs.size=some { cls:=.type "list",dict:=none,data:=.seq c.toArray g,slots:=#[] }->EP X B A Q (.ref s.heap.objs.size) { s with heap:=d }:=λc f j d g i e =>
  (.ref s.heap.objs.size,_,I.laid (t':=s.toks) i (aac _) (show bB X.prog X.w _ d _ (.lst ys)from (j,c,g,f,e)),rfl,q _ (I.hok.fresh (aac _)))
 rcases k with k|k
 ·obtain⟨c,f,v,j⟩:=I.list k;have t:=f.length;obtain⟨o,x,y,n,hd⟩:=v.isList;exact call_list_seq p (.inl rfl) x y hd (λd g i e=>m c f j d g i e) (by simp only[aax] <;> lia)
 ·obtain⟨c,f,v,j⟩:=I.tuple k;have t:=f.length;obtain⟨o,x,y,n,hd⟩:=v;exact call_list_seq p (.inr rfl) x y hd (λd g i e=>m c f j d g i e) (by simp only[aax] <;> lia)
theorem gb:gn X (.type "tuple") (λxs H Q=>∃p ys,xs=[.ref p]/\((My X.K H p ys /\ ∀l,H l=none->Q (.ref l) (upd H l (.tup ys)))\/(S7 X.K H p ys/\Q (.ref p) H))):=by
 intro k s j H xs z Q I r h;obtain⟨p,ys,rfl,h⟩:=h;obtain⟨u,rfl,v⟩:=vals1 r;cases v;rcases h with ⟨i,q⟩|⟨i,q⟩
 ·obtain⟨c,f,g,m⟩:=I.list i;have t:=f.length;refine call_tuple_list g.isList (λd x=>?_) (by simp only[aax] <;> lia);have n:Inv X k j H { s with heap:=d }:=I.kept (t':=s.toks) x
  have y:Inv X k j (upd H d.objs.size (.tup ys)) { s with heap:=d.push { cls:=.type "tuple",data:=.seq c.toArray } }:=
   n.laid (t':=s.toks) (λb o e=>Heap.get?_push_of_some _ e) (aac _) (show bB X.prog X.w _ _ _ (.tup ys)from (m,c,f,IsTup.new _ _))
  exact(.ref d.objs.size,_,y,rfl,q _ (n.hok.fresh (aac _)))
 ·obtain⟨c,f,g,m⟩:=I.tuple i;exact call_tuple_same g (.ref p,H,I,rfl,q)
def Yn(K:PySem.W.Frag)(T:String)(x:V)(H:Hp):Prop:=match x with
 | .str _=>T = "str"
 | .int _=>T = "int"
 | .ref p=>(T = "list" /\ ∃d,My K H p d)\/(T = "tuple" /\ ∃o,K.lookup p=some o/\o.cls=.type "tuple" /\ o.dict=none) \/
   (T = "dict" /\ ((∃c,H p=some (.dK c)) \/ ∃c,H p=some (.dT c)))\/(T = "set" /\ ∃S n,H p=some (.set S n))
 | _=>False
theorem Lx{σ:St}{s:Shared}{T:String}{x:V}{v:Value}(I:Inv X π σ H s)(r:RelV x v)(g:Yn X.K T x H):
  s.TypeIs v T /\ ∀a,v=.ref a -> ∃l,s.heap.get? a=some l/\l.dict=none:=by
 cases x with
 | str z =>
  obtain⟨t,rfl⟩:=r
  cases (show T = "str" from g)
  exact(typeIs_str s z t,λ_ e=>nomatch e)
 | int i =>
  obtain⟨t,rfl⟩:=r
  cases (show T = "int" from g)
  exact(typeIs_int s i t,λ_ e=>nomatch e)
 | ref p =>
  cases r;rcases g with ⟨rfl,w,m⟩|⟨rfl,o,d,q,hd⟩|⟨rfl,d⟩|⟨rfl,S,n,d⟩
  ·obtain⟨u,_,k,_⟩:=I.list m;refine(k.isList.typeIs,λa e=>?_);cases e;obtain⟨o,n,e,c,hd,_⟩:=k;exact(o,e,hd)
  ·refine((o,I.Ug p o d,q),λa e=>?_);cases e;exact(o,I.Ug _ o d,hd)
  ·have z:∃o,s.heap.get? p=some o/\o.ExactDict:=by
    rcases d with ⟨j,d⟩|⟨j,d⟩
    ·obtain⟨_,_,_,_,o,_,_,e,f,_⟩:=I.hok p _ d;exact(o,e,f)
    ·obtain⟨_,_,_,_,o,_,_,e,f,_⟩:=I.hok p _ d;exact(o,e,f)
   obtain⟨o,e,f⟩:=z;refine((o,e,f.1),λa h=>?_);cases h;exact(o,e,f.2.1)
  ·obtain⟨o,_,_,_,e,f,_⟩:=I.hok p _ d;refine((o,e,f.1),λa h=>?_);cases h;exact(o,e,f.2.1)
 | _=>exact False.elim g
def NQ(K:PySem.W.Frag)(T:String)(r:V->List V->Hp->VK->Prop)(Q:VK):VK:=λx c=>Yn K T x c/\r x [] c Q
def RP(K:PySem.W.Frag)(T:String)(r:V->List V->Hp->VK->Prop)(d:TE):TE:=λ c H Q=>d c H (NQ K T r Q)
def PL(K:PySem.W.Frag)(T:String)(r:V->List V->Hp->VK->Prop)(t:TA)(σ:St)(Q:VK):VK:=λx c=>Yn K T x c/\t σ c λd e=>r x d e Q
def tBM(K:PySem.W.Frag)(T:String)(r:V->List V->Hp->VK->Prop)(d:TE)(t:TA):TE:=λ c H Q=>d c H (PL K T r t c Q)
variable{es:List Expr}{to:TE}{cpos:Pos}{T id:String}{r:V->List V->Hp->VK->Prop}
theorem QX(q:PlainAttrs T)(f:Slot T name id)(g:typeOf (.builtin id)=pure (.type "method_descriptor"))(w:Xq X id r)(u:PE X o to)
  (d:attributeBase o name X.env (eval o X.env)=eval o X.env:=by rfl)(c:(apos.endLine == cpos.line)=true:=by rfl):PE X (.Call (.Attribute o name apos) [] [] cpos) (RP X.K T r to):=by
 intro j s i H Q I h;refine wpAny_Call_method0_late d c (S5 (u j s i H _ I h) λv n ⟨x,A,l,k,m,p⟩=>?_);obtain⟨z,y⟩:=Lx l k m;exact(T,id,q,f,g,z,y,Calls.callWith_builtin rfl (PySem.evalArgs_none (w j n i A x [] v [] Q l k .nil p)))
theorem gR(D:PlainAttrs T)(g:Slot T name id)(l:typeOf (.builtin id)=pure (.type "method_descriptor"))(G:Xq X id r)(F:PE X o to)(J:PA X (e::es) t)
  (f:attributeBase o name X.env (eval o X.env)=eval o X.env:=by rfl)
  (i:((backTo cpos (starEach (e::es) X.env)).all (λx=>!x.1) && (backToKw cpos (keywordEach [] X.env)).all (λx=>x.1.isSome)
   && decide ((e::es).length+([]:List Keyword).length+(if ([]:List Keyword).isEmpty then 0 else 1)<30))=true:=by rfl)
  (d:(apos.endLine == cpos.line)=true:=by rfl)(E:starEach (e::es) X.env=(pq false (eval e X.env))::starEach es X.env:=by rfl)(c:(backTo cpos (starEach es X.env)).any (·.1)=false:=by rfl):
  PE X (.Call (.Attribute o name apos) (e::es) [] cpos) (tBM X.K T r to t):=by
 intro k s j H Q I h;refine wpAny_Call_method_late f i d rfl (S5 (F k s j H _ I h) λv z ⟨x,P,p,m,w,C⟩=>?_);obtain⟨M,L⟩:=Lx p m w;exists T,id,D,g,l,M,L;have n:=J cpos k z j P _ p C;rw[E]at n ⊢;refine Calls.callWith_builtin (by show (false || (backTo cpos (starEach es X.env)).any (·.1))=false;rw[c] <;> rfl) (Calls.evalArgs_plain ?_);exact S5 n λu y ⟨q,O,N,A,B⟩=>G k y j O x q v u Q N m A B
end
def Yo(X:Cx)(id:String)(r:V->List V->Hp->VK->Prop):Prop:=
 ∀(b:List (Addr×Obj)) (s:Shared) (a:St) (H:Hp) (x:V) (c:List V) (v:Value) (d:List Value) (Q:VK),Inv X b a H s->RelV x v->Vals c d->r x c H Q ->
  wpAny (model X.prog X.w) X.A (call (.builtin id) (v::d)) (EP X b a Q) X.xe s
theorem Vals.one:∀{x:V}{a:List Value},Vals [x] a -> ∃u,a=[u]/\RelV x u
 | _,_,.cons r .nil=>(_,rfl,r)
theorem Vals.reverse{xs:List V}(h:Vals xs r):Vals xs.reverse r.reverse:=by
 induction h with
 | nil=>exact .nil
 | cons a t b=>rw[aik,aik];exact Vals.append b (.cons a .nil)
theorem Vals.rep{xs:List V}{a:List Value}(h:Vals xs a):∀k:Nat,Vals (aaB k xs).flatten (aaB k a).flatten
 | 0=>.nil
 | k+1=>by
  rw[afB,afB,afZ,afZ];exact Vals.append h (Vals.rep h k)
theorem foldl_rep(a:List Value):∀(k:Nat) (b:List Value),
  aiM (λd c=>d++c) b.toArray (aaB k a.toArray)=(b++(aaB k a).flatten).toArray
 | 0,b=>by simp
 | k+1,b=>by
  have e:b.toArray++a.toArray=(b++a).toArray:=by simp
  have f:(b++a)++(aaB k a).flatten=b++(aaB (k+1) a).flatten:=by
   rw[afB,afZ,abm]
  rw[<-f,<-foldl_rep a k (b++a),<-e,afB,aiC]
section
variable{l b:Addr}{xs ys zs:List V}
theorem Inv.lset{its':List Value}{n:Nat}{f:Array Value->Array Value}{t':Nat}(I:Inv X π σ H s)(h:H l=some (.lst xs))
  (e:s.heap.get? l=some { cls:=.type "list",data:=.seq r.toArray n })(d:f r.toArray=its'.toArray)(a:Vals ys its')(hz:ys.length<=sizeLine):
  Inv X π σ (upd H l (.lst ys)) { s with heap:=s.heap.update l (Obj.mapSeq f),toks:=t' }:=by
 have q:=PySem.IsL.update e f;rw[d]at q;refine I.write (x:=l) (e:=l) (by rw[h];exact trivial) (.inl rfl) (λi u g c=>(Heap.get?_update_other s.heap (Obj.mapSeq f) (ae2 g)).trans c) (_,q) ?_;exact(hz,its',_,a,q)
theorem Inv.lnew{t':Nat}(I:Inv X π σ H s)(a:Vals ys r)(hz:ys.length<=sizeLine):
  Inv X π σ (upd H s.heap.objs.size (.lst ys)) { s with heap:=s.heap.push { cls:=.type "list",data:=.seq r.toArray },toks:=t' }:=
 I.laid (λ_ _ q=>Heap.get?_push_of_some _ q) (aac _) (hz,r,0,a,Heap.get?_push_size _ rfl)
theorem Inv.fresh(I:Inv X π σ H s):H s.heap.objs.size=none:=I.hok.fresh (aac _)
theorem Inv.lstM(I:Inv X π σ H s)(c:H l=some (.lst xs)):xs.length<=sizeLine /\ ∃(a:List Value) (n:Nat),Vals xs a/\xs.length=a.length/\s.heap.get? l=some { cls:=.type "list",data:=.seq a.toArray n }:=by
 obtain⟨z,a,n,r,e⟩:=I.hok l _ c;exact(z,a,n,r,r.length,e)
theorem BV{n:Nat}(h:n<=sizeLine):Builtin.List.listTooLong n=false:=by
 unfold Builtin.List.listTooLong;exact decide_eq_false (by lia)
end
section
inductive Np(x:V)(vs:List V)(H:Hp)(Q:VK):Prop
 | mk (l xs y:_) (_:x=.ref l) (_:vs=[y]) (_:H l=some (.lst xs)) (_:xs.length<sizeLine) (_:Q .non (upd H l (.lst (xs++[y]))))
theorem bZ:Yo X "list.append" Np:=by
 intro i s g H x k v m Q I c d h;obtain⟨l,j,y,rfl,rfl,b,o,q⟩:=h;cases c;obtain⟨u,rfl,f⟩:=d.one;obtain⟨z,a,n,r,p,e⟩:=I.lstM b;refine call_meets F.slot_list_append (_,e,rfl) F.entry_list_append (F.args_list_append_2 _ _) (PySem.list_append l a.toArray n u (by rw[aax];lia)) (e,?_);refine(.non,_,I.lset (its':=a++[u]) b e (by simp) (r.append (.cons f .nil)) ?_,rfl,q);rw[aaf,afC];lia
inductive Ny(x:V)(vs:List V)(H:Hp)(Q:VK):Prop
 | mk (l b xs zs:_) (_:x=.ref l) (_:vs=[.ref b]) (_:H l=some (.lst xs)) (_:H b=some (.lst zs)) (_:xs.length+zs.length<=sizeLine) (_:Q .non (upd H l (.lst (xs++zs))))
theorem qz:Yo X "list.extend" Ny:=by
 intro A s y H x E v G Q I i j h;obtain⟨l,b,D,B,rfl,rfl,g,p,J,q⟩:=h;cases i;obtain⟨u,rfl,k⟩:=j.one;cases k;obtain⟨z,c,n,r,K,e⟩:=I.lstM g;obtain⟨C,a,o,m,w,t⟩:=I.lstM p;have f:c.toArray.size+a.toArray.size<=sizeLine:=by rw[aax,aax];lia
 have d:¬(!c.toArray.isEmpty && Builtin.List.listTooLong (c.toArray.size+a.toArray.size))=true:=by
  rw[BV f,Bool.and_false];exact aar
 refine call_meets F.slot_list_extend (_,e,rfl) F.entry_list_extend (F.args_list_extend_2 _ _)
  (AutoSeq1.list_extend_list_list_0 l c.toArray n b a.toArray o d (by rw[aax];lia) (by lia)) (e,t,?_)
 refine(.non,_,I.lset (its':=c++a) g e (by simp) (r.append m) ?_,rfl,q);rw[aaf];lia
inductive RQ(x:V)(y:V)(H:Hp)(Q:VK):Prop
 | mk (l b xs zs:_) (_:x=.ref l) (_:y=.ref b) (_:H l=some (.lst xs)) (_:H b=some (.lst zs)) (_:xs.length+zs.length<=sizeLine) (_:∀p,H p=none->Q (.ref p) (upd H p (.lst (xs++zs))))
theorem mC:Tn X (binaryOp .Add) RQ:=by
 intro t s p H x y v u Q I f d h;obtain⟨l,b,B,w,rfl,rfl,i,j,D,q⟩:=h;cases f;cases d;obtain⟨z,c,n,r,E,e⟩:=I.lstM i;obtain⟨A,a,C,g,o,m⟩:=I.lstM j;refine PySem.P.add_list e m ?_ (by rw[aax,aax];lia);have k:c.toArray++a.toArray=(c++a).toArray:=by simp
 rw[k];exact(.ref _,_,I.lnew (t':=s.toks) (r.append g) (by rw[aaf];lia),rfl,q _ I.fresh)
inductive RC(x:V)(y:V)(H:Hp)(Q:VK):Prop
 | mk (l k xs:_) (_:x=.ref l) (_:y=.int k) (_:H l=some (.lst xs)) (_ : -(2^63)<=k) (_:k<2^63) (_:xs.length*k.toNat<=sizeLine) (_:∀p,H p=none->Q (.ref p) (upd H p (.lst (aaB k.toNat xs).flatten)))
theorem len_rep(xs:List O)(k:Nat):(aaB k xs).flatten.length=k*xs.length:=by
 induction k with
 | zero=>simp
 | succ k a=>rw[afB,afZ,aaf,a,agL,aiQ]
theorem zT:Tn X (binaryOp .Mult) RC:=by
 intro L s K H x y v u Q I B A h;obtain⟨l,k,M,rfl,rfl,D,G,E,p,q⟩:=h;cases B;obtain⟨t,rfl⟩:=A;obtain⟨z,b,n,r,C,e⟩:=I.lstM D;have f:b.toArray.size*k.toNat<=sizeLine:=by rw[aax,<-C];exact p
 have i:¬b.toArray.size*k.toNat > (2^63 - 1) / 8:=by
  have:(sizeLine:Nat)<=(2^63 - 1) / 8:=by decide
  lia
 have g:¬(!Builtin.List.listFitsIndex k)=true:=by
  rw[fitsIndex_both G E];exact aar
 have c:¬Builtin.List.listTooLong (b.toArray.size*k.toNat)=true:=by
  rw[BV f];exact aar
 have d:aiM (λo j=>o++j) #[] (aaB (if b.toArray.isEmpty=true then 0 else k.toNat) b.toArray)=(aaB k.toNat b).flatten.toArray:=by
  have J:∀m:Nat,aiM (λo j=>o++j) #[] (aaB m b.toArray)=(aaB m b).flatten.toArray:=λm=>by
   have:=foldl_rep b m [];rw[ag1]at this;exact this
  rw[J];cases b with
  | nil=>simp
  | cons a N=>rw[if_neg (by simp)]
 refine wpAny_binaryOp_repeat_ref (T := "list") (U := "int") (by decide) (_,e,rfl) (λw=>typeIs_int w k t) noFill_list_mul F.fills_int_mul F.slot_int_rmul repeat_list F.slot_int_index.lookup
  (call_meets F.slot_int_rmul (typeIs_int s k t) F.entry_int_rmul (F.args_int_rmul_2 _ _) (int___rmul___int_list k t l b.toArray n)
   (e,rfl,(_,e,rfl),call_meets F.slot_list_mul (_,e,rfl) F.entry_list_mul (F.args_list_mul_2 _ _) (AutoListH.list___mul___list_int_3 l b.toArray n k t g i c) (e,?_)))
 rw[d];exact(.ref _,_,I.lnew (t':=s.toks) (r.rep k.toNat) (by rw[len_rep,afW];exact p),rfl,q _ I.fresh)
end
section
end
section
end
end L2
namespace Xr
open PySem.W PySem.Calls PyProof.Rows
theorem sX{P:Params}:∀(c:List Int) (d:List Value),WellAll P h' d (c.map WData.int)->IntsAre d c:=by
 intro c
 induction c with
 | nil =>
  intro d w;rw[ahc]at w;cases w;exact .nil
 | cons n c e =>
  intro d w;rw[aaA]at w;cases w with
  | cons a b =>
   cases a;exact .cons _ _ (e _ b)
theorem Jl{l:OpenLaw}{n:Nat}(x:l.most=some n){P:Params}{c:List WData}
  (f:l.row.toRowW.claim.pre c=true)(m:WellAll P h' r c):
  ∃a p e,r=[Value.ref a]/\c=[WData.list (e.map WData.int)]/\h'.get? a=some { cls:=.type "list",data:=.seq p.toArray }/\IntsAre p e/\e.length<=n:=by
 have o:WShape.hasAll [] c [.list .int]=true:=(pre_splitW f).1;have s:l.pre.holds [] { args:=c }=true:=(pre_splitW f).2;obtain⟨d,b,rfl,A,z⟩:=hasAllW_cons o;obtain rfl:=hasAllW_nil z;obtain⟨B,rfl,y⟩:=hasW_list A;obtain⟨e,rfl⟩:=items_int y;have g:e.length<=n:=by
  unfold OpenLaw.pre at s;have k:(WTm.not (.lt (.lit (.int (n:Int))) (.len (.arg 0)))).holds [] { args:=[.list (e.map .int)] }=true:=by
   have k:=(holds_andW s).1;rw[x]at k;exact k
  have j:=condW_of k (w_not (w_lt w_lit (w_len_list (w_arg rfl))));rw[aaa]at j;refine Nat.le_of_not_lt λq=>?_;have v:(n:Int)<((e.length:Nat):Int):=by lia
  first
   | (rw[decide_eq_true v]at j;exact absurd j (by decide))
   | (simp at j;lia)
 cases m with
 | cons u t =>
  cases t;cases u with
  | list w i=>exact(_,_,e,rfl,rfl,w,sX e _ i,g)
theorem IW(l:OpenLaw)(a:List WData):l.row.toRowW.claim.post a (.bool true) a=true:=
 postW_of (r:=l.row.toRowW) (X:=(true == true))
  (show WShape.has [] (.bool true) .bool=true by first|rfl|decide|simp[WShape.has,WShape.arms,WShape.armsAll])
  (show (WTm.eq .res (.lit (.bool true))).value [] { args:=a,res:=some (.bool true),after:=a }=some (.bool (true == true))from w_eq_bool (w_res rfl) w_lit) rfl
theorem attach_call{l:OpenLaw}{n:Nat}{q:Program}{E:(Str->Option Value)->Heap->Prop}{D:World->Heap->Prop}{d:DefRec}
  (L:l.most=some n)(A:d.params.defaults=[])
  (p:∀(w:World) (c b:Shared) (mg x:Str->Option Value) (i:Addr) (o:Obj) (v u e:Value) (a:Addr) (h:List Value) (t:List Int),
   Ground q N [] E w c mg x b.heap->D w b.heap ->
   b.heap.get? i=some o->o.data=.func (docDef d.name d.params d.body d.scope v u e)->b.heap.CodeRec u d.name->mg d.name=some (.ref i) ->
   b.heap.get? a=some { cls:=.type "list",data:=.seq h.toArray }->IntsAre h t->t.length<=n->b.gens=#[] ->
   codeAny (model l.prog w) callerA (.call (.ref i) ([.ref a],[])) (λr s=>r=.ok (.ret (.bool true))/\OldK b.heap s.heap/\s.os=b.os/\AllBare s.gens) b):
  WalkO q N E D l.row.toRowW d [] (λf h=>PySem.call f h):=by
 intro w c b mg x G Y i o v u e S kV K hd B C z O I F V j H T y U;obtain rfl:S=.none:=Dflts.none C A;obtain rfl:kV=.none:=Dflts.noKw C;obtain⟨a,h,t,rfl,rfl,k,g,m⟩:=Jl L j y;refine enter_call (codeAny_mono (p w c b mg x i o v u e a h t G Y K (fd_plain hd) B z k g m O) λr s J=>?_);obtain⟨rfl,R,Q,P⟩:=J;exact(.inl (.bool true,.bool true,[],rfl,λ_=>rfl,.bool true,IW l _,λ_=>(List.Pairwise.nil,λ_ M=>(nomatch M))),R,Q,P)
section
variable{K:Frag}
end
end Xr
namespace L2
open PySem.Spec PyProof.Rows
theorem p7:∀{a:List Value}{b:List Int},IntsAre a b->Vals (b.map V.int) a
 | _,_,.nil=>.nil
 | _,_,.cons n t h=>.cons (t,rfl) (p7 h)
def ν(s:Stmt):Arguments:=match s with
 | .FunctionDef _ a _ _ _ _ _ _ _ _=>a
 | _=>{ posonlyargs:=[],args:=[],vararg:=none,kwonlyargs:=[],kw_defaults:=[],kwarg:=none,defaults:=[] }
def μ(s:Stmt):List Stmt:=match s with
 | .FunctionDef _ _ b _ _ _ _ _ _ _=>b
 | _=>[]
def δ(s:Stmt):Scope:=match s with
 | .FunctionDef _ _ _ _ _ _ a _ _ _=>a
 | _=>{ kind:=.function,names:=[],isGenerator:=false,isCoroutine:=false }
abbrev S6:Uh:=λ_ _ _ _ _ _=>False
abbrev E0:XK:=λ_ _ _=>False
theorem Rr{X:Cx}:qQ S6 X E0:=λ_ _ _ _ _ _ _ h=>h.elim
structure T7(K:PySem.W.Frag)(x qual:Str)(st:Stmt)(f:Addr)(fd:FuncData):Prop where
 ex:∃(oc:Value) (od:Option Addr) (kV doc pm:Value) (an:Option Addr) (cdv ct:Value) (osl:Array (Option Value)),
  fd=PySem.W.fnOf x qual (ν st) (μ st) (δ st) .none kV doc pm an cdv ct/\K.lookup f=some (oc,od,.func fd,osl)/\PySem.W.codeIn K cdv qual=true
 kp:PySem.W.keepIn K (.ref f)=true
section
variable{P:Program}
theorem T7.ok{x :Str}{st:Stmt}{f:Addr}{fd:FuncData}{N ps:List Str}{k:Nat}(F:T7 K x qual st f fd)(S:aC N ps (δ st))(e:∀c H Q E,sp c H Q E->c.length=ps.length)
  (d:∀(b:Value) (A:Around) (a:List Env) (s:Shared) (H:Hp) (c:List V) (Q:VK) (E:XK),dX k (A.deeper (envOfC qual (δ st) s.heap.objs.size f b))->sp c H Q E ->
   ∃t,Ub (gZ S6 P w K mg base N qual (δ st) f b A a s H E).Wg (μ st) t/\t { nx:=λ_ H'=>Q .non H',rt:=Q } (start N c) H):aV P w K mg base S6 (k+1) f fd ps sp:=by
 obtain⟨r,p,kV,n,o,v,b,u,m,rfl,j,i⟩:=F.ex;refine OD j i S e λA a s H c Q E l g=>?_;obtain⟨t,h,q⟩:=d b A a s H c Q E l g;exact(t,h.Wg,q)
theorem T7.S9{x :Str}{st:Stmt}{f:Addr}{fd:FuncData}{N ps:List Str}{k:Nat}(F:T7 K x qual st f fd)(S:aC N ps (δ st))
  (b:∀(d:Value) (A:Around) (a:List Env) (s:Shared) (H:Hp) (c:List V) (Q:VK) (E:XK),dX k (A.deeper (envOfC qual (δ st) s.heap.objs.size f d))->sp c H Q E ->
   ∃t,Ub (gZ S6 P w K mg base N qual (δ st) f d A a s H E).Wg (μ st) t/\t { nx:=λ_ H'=>Q .non H',rt:=Q } (start N c) H)(e:∀c H Q E,sp c H Q E->c.length=ps.length:=by intro _ _ _ _ h;cases h;subst_vars;rfl):aV P w K mg base S6 (k+1) f fd ps sp:=F.ok S e b
theorem T7.binds{x :Str}{st:Stmt}{f:Addr}{fd:FuncData}{ps:List Str}(F:T7 K x qual st f fd)
  (h:∀(kV a d:Value) (g:Option Addr) (b e:Value) (c:List Value),c.length=ps.length->bindArgs (PySem.W.fnOf x qual (ν st) (μ st) (δ st) .none kV a d g b e) (c,[])=pure (ps.zip c)):Binds K fd ps []:=by
 obtain⟨l,k,kV,a,d,g,b,e,i,rfl,m,j⟩:=F.ex;exact .all (h kV a d g b e)
theorem zz{x :Str}{st:Stmt}{f:Addr}{i h:Option Addr}{d:Array (Option Value)}{kV b e a g:Value}(l:K.lookup f=some (q,i,.func (PySem.W.fnOf x qual (ν st) (μ st) (δ st) .none kV b e h a g),d))
  (c:PySem.W.codeIn K a qual=true)(k:PySem.W.keepIn K (.ref f)=true):T7 K x qual st f (PySem.W.fnOf x qual (ν st) (μ st) (δ st) .none kV b e h a g):=((q,i,kV,b,e,h,a,g,d,rfl,l,c),k)
end
section
theorem pv(i:Nat){x:Str}{pos:Pos}(c:X.N[i]?=some x:=by rfl)(b:Xk X.env.scope x:=by first|exact agG rfl|exact ahs (agG rfl) | exact ahs (ahs rfl))(hd:(x == ("__debug__" : Str))=false:=by decide)
  (a:(x == ("__classdict__" : Str))=false:=by decide):PE X (.Name x pos) (Py i):=Eh c b hd a
end
theorem dN{A B:Prop}(h:B):if false=true then A else B:=by
 rw[if_neg aar];exact h
theorem jr{A B:Prop}(h:A):if true=true then A else B:=by
 rw[if_pos rfl];exact h
theorem bC{c A B:Prop}[Decidable c](b:c->A)(a:¬c->B):if c then A else B:=by
 by_cases h:c
 ·rw[if_pos h];exact b h
 ·rw[if_neg h];exact a h
theorem xV{c A B:Prop}[Decidable c](a:c)(h:B):if (!decide c)=true then A else B:=by
 rw[decide_eq_true a];exact dN h
def aO(H H':Hp):Prop:=∀b o,H b=some o->H' b=some o
theorem aO.refl(H:Hp):aO H H:=λ_ _ h=>h
theorem aO.trans{d:Hp}(a:aO H H')(b:aO H' d):aO H d:=λc o h=>b c o (a c o h)
theorem aO.free{H':Hp}(e:aO H H'){l:Addr}(h:H' l=aiT):H l=aiT:=by
 cases q:H l with
 | none=>rfl
 | some o =>
  rw[e l o q]at h;cases h
theorem aO.seq{H':Hp}{a:Addr}{xs:List V}(e:aO H H')(h:My K H a xs):My K H' a xs:=by
 rcases h with (h|⟨o,h⟩) | h
 ·exact .inl (.inl (e _ _ h))
 ·exact .inl (.inr (o,e _ _ h))
 ·exact .inr h
end L2
set_option maxHeartbeats 4000000
set_option Elab.async false
set_option linter.all false
set_option maxRecDepth 100000
set_option maxHeartbeats 4000000
namespace Tw
theorem az{p:Addr}(h:H p=none)(o:HO):aO H (upd H p o):=λb u q=>by rw[aH (aJ q h)];exact q
theorem bK{H':Hp}{p:Addr}(s:aO H H')(h:H p=none)(o:HO):aO H (upd H' p o):=λb u q=>by rw[aH (aJ q h)];exact s b u q
theorem small{n:Nat}(h:n<=4097):n<sizeLine:=agd h (by decide)
theorem bh:bootBuiltins "len" = some (.builtin "len"):=by decide +kernel
theorem Qp:bootBuiltins "sum" = some (.builtin "sum"):=by decide +kernel
theorem m9:bootBuiltins "isinstance" = some (.builtin "isinstance"):=by decide +kernel
theorem Fl:bootBuiltins "min" = some (.builtin "min"):=by decide +kernel
theorem Pz:bootBuiltins "max" = some (.builtin "max"):=by decide +kernel
theorem qP:bootBuiltins "sorted" = some (.builtin "sorted"):=by decide +kernel
theorem PJ:bootBuiltins "int" = some (.type "int"):=by decide +kernel
theorem Oq:bootBuiltins "bool" = some (.type "bool"):=by decide +kernel
theorem ph:bootBuiltins "list" = some (.type "list"):=by decide +kernel
theorem oV:bootBuiltins "tuple" = some (.type "tuple"):=by decide +kernel
theorem lD:bootBuiltins "reversed" = some (.type "reversed"):=by decide +kernel
theorem Dv:bootBuiltins "set" = some (.type "set"):=by decide +kernel
theorem Fv:bootBuiltins "zip" = some (.type "zip"):=by decide +kernel
theorem Ky{xs:List V}{lo a:Option Int}{x:V}(h:x∈fB xs lo a):x∈xs:=agg (agt h)
theorem Gv{lo a:Option Int}{i:Nat}{x:V}(h:(fB (d.map V.int) lo a)[i]?=some x):∃c:Int,x=.int c:=by
 obtain⟨c,_,e⟩:=abl.mp (Ky (aag h));exact(c,e.symm)
theorem Ng(a:List Int)(i j:Nat):fB (a.map V.int) (some (i:Int)) (some (j:Int))=((a.drop i).take (j - i)).map V.int:=by
 unfold fB;rw[HT.jT,HT.jT,aie,ahK,aaa];rcases aas a.length i with h|h
 ·rw[agn (adi h),ae5 (by simp),ae5 (by simp;lia)];simp
 ·rw[aev h];rcases aas a.length j with q|q
  ·rw[agn (adi q),aai (by simp),aai (by simp;lia)]
  ·rw[aev q]
theorem Lr(a:List Int)(j:Nat):fB (a.map V.int) none (some (j:Int))=(a.take j).map V.int:=by
 unfold fB;rw[HT.jT,HT.lu,aie,aaa,agU,agA];rcases aas a.length j with q|q
 ·rw[agn (adi q),aai (by simp),aai (by simp;lia)]
 ·rw[aev q]
theorem KC(a:List Int)(i:Nat):fB (a.map V.int) (some (i:Int)) none=(a.drop i).map V.int:=by
 unfold fB;rw[HT.jT,HT.lu,ahK,aaa];rcases aas a.length i with h|h
 ·rw[agn (adi h),ae5 (by simp),ae5 (by simp;lia)];simp
 ·rw[aev h,aai (by simp)]
theorem int_at{i:Nat}{x:V}(h:(d.map V.int)[i]?=some x):∃c,d[i]?=some c/\x=.int c:=by
 rw[aah]at h;cases e:d[i]? with
 | none=>rw[e]at h;cases h
 | some c=>rw[e]at h;exact(c,rfl,(aap h).symm)
theorem oO{i:Nat}{c:Int}(h:d[i]?=some c):Tz (d.map V.int) (i:Int)=some (.int c):=mY (by rw[aah,h];rfl)
structure Df(K:PySem.W.Frag)(mg:Str->Option Value)(x:Str)(st:Stmt)(ps:List Str)(f:Addr)(fd:FuncData):Prop where
 F:T7 K x x st f fd
 b:Binds K fd ps []
 m:mg x=some (.ref f)
def bit(b:Int)(k:Nat):Int:=b / 2^k%2
def bits(b:Int)(n:Nat):List Int:=(adU n).map (bit b)
def ones(b:Int)(n:Nat):Int:=(bits b n).sum
theorem gq(b:Int)(n:Nat):(bits b n).length=n:=by simp[bits]
theorem Jo(b:Int)(n:Nat):bits b (n+1)=bits b n++[bit b n]:=by simp[bits,af1]
theorem qd(b:Int):ones b 0=0:=rfl
theorem iw(b:Int)(n:Nat):ones b (n+1)=ones b n+bit b n:=by
 unfold ones;rw[Jo];simp
theorem uz{b:Int}{n k:Nat}(h:k<n):(bits b n)[k]?=some (bit b k):=by simp[bits,h]
theorem xu(b:Int)(k:Nat):bit b k=0\/bit b k=1:=by
 unfold bit;lia
theorem Jr(b:Int){k n:Nat}(h:k<=n):ones b k<=ones b n:=by
 induction n with
 | zero =>
  have:k=0:=by lia
  subst this;lia
 | succ n a =>
  rcases aas k (n+1)with c | c
  ·have:=a (by lia);have:=xu b n;rw[iw];lia
  ·have:k=n+1:=by lia
   subst this;lia
theorem place_below{b:Int}{k n:Nat}(a:bit b k=1)(h:k<n):ones b k<ones b n:=by
 have:=Jr b (show k+1<=n by lia);rw[iw]at this;lia
def aZ(a:List Int):Prop:=∀b∈a,b=0\/b=1
theorem aZ.tail{b:Int}{a:List Int}(h:aZ (b::a)):aZ a:=λx c=>h x (.tail _ c)
theorem aZ.head{b:Int}{a:List Int}(h:aZ (b::a)):b=0\/b=1:=h b (.head _)
theorem aZ.take(h:aZ d)(k:Nat):aZ (d.take k):=λx a=>h x (agt a)
theorem aZ.drop(h:aZ d)(k:Nat):aZ (d.drop k):=λx a=>h x (agg a)
def blk:List Int->Int
 | []=>0
 | b::r=>2*blk r+b
theorem CZ(b:Int):bit b 0=b%2:=by simp[bit]
theorem xT(b:Int)(k:Nat):bit b (k+1)=bit (b / 2) k:=by
 unfold bit;rw[ahL (by decide),<-Int.pow_succ']
theorem ut:∀{a:List Int},aZ a -> ∀k:Nat,bit (blk a) k=(a[k]?).getD 0
 | [],_,k=>by simp[blk,bit]
 | b::r,h,0=>by
  have:=h.head;rw[CZ];simp only[blk,List.getElem?_cons_zero,aix];lia
 | b::r,h,k+1=>by
  have c:=h.head;rw[xT,ahM];have e:blk (b::r) / 2=blk r:=by simp only[blk];lia
  rw[e];exact ut h.tail k
theorem lR{a:List Int}(h:aZ a):∀k:Nat,ones (blk a) k=(a.take k).sum
 | 0=>by simp[qd]
 | k+1=>by
  rw[iw,lR h k,ut h];by_cases b:k<a.length
  ·rw[abW,aad b];simp only[aif,ag2,ahq,aiR,aix];lia
  ·rw[aai (by lia),aai (by lia),agq (by lia)];simp
def many(n:Nat):Nat:=(n+31) / 32
def cB(a:List Int)(j:Nat):Int:=blk ((a.drop (32*j)).take 32)
def bD(a:List Int):List Int:=(adU (many a.length)).map (cB a)
theorem bA(a:List Int):(bD a).length=many a.length:=by simp[bD]
theorem mX{j:Nat}(h:j<many d.length):(bD d)[j]?=some (cB d j):=by simp[bD,h]
theorem vR(h:aZ d)(j:Nat):aZ ((d.drop (32*j)).take 32):=(h.drop _).take _
theorem bit_at(h:aZ d)(j k:Nat)(a:k<32):bit (cB d j) k=(d[32*j+k]?).getD 0:=by
 unfold cB;rw[ut (vR h j),afA a,age]
def net(b:Int)(k:Nat):Int:=2*ones b k - k
theorem J8(b:Int):net b 0=0:=by simp[net,qd]
theorem Ab(b:Int)(k:Nat):net b (k+1)=net b k+2*bit b k - 1:=by
 unfold net;rw[iw];lia
def nets(b:Int)(n:Nat):List Int:=(adU n).map λk=>net b (k+1)
theorem eQ(b:Int)(n:Nat):(nets b n).length=n:=by simp[nets]
theorem HY(b:Int)(n:Nat):nets b (n+1)=nets b n++[net b (n+1)]:=by simp[nets,af1]
theorem Av{b:Int}{n k:Nat}(h:k<n):(nets b n)[k]?=some (net b (k+1)):=by simp[nets,h]
theorem BW{b:Int}{n:Nat}{x:Int}:x∈nets b n ↔ ∃k,1<=k/\k<=n/\x=net b k:=by
 unfold nets;rw[abl];constructor
 ·rintro⟨k,a,rfl⟩;exact(k+1,by lia,by have:=agi.mp a;lia,rfl)
 ·rintro⟨k,d,c,rfl⟩;exists k - 1,agi.mpr (by lia);have e:k - 1+1=k:=by lia
  rw[e]
def ht(a:List Int)(k:Nat):Int:=2*(a.take k).sum - k
theorem jk(a:List Int):ht a 0=0:=by simp[ht]
theorem jU{k:Nat}{b:Int}(h:d[k]?=some b):ht d (k+1)=ht d k+2*b - 1:=by
 unfold ht;rw[abW,h];simp only[aif,ag2,ahq,aiR];lia
theorem pL(b:List Int)(a k:Nat):(b.take (a+k)).sum=(b.take a).sum+((b.drop a).take k).sum:=by
 rw[aiN,ag2]
theorem pM(h:aZ d)(j k:Nat)(a:k<=32):ht d (32*j+k)=ht d (32*j)+net (cB d j) k:=by
 unfold ht net cB;rw[lR (vR h j),pL,ag9,aev a];lia
theorem Fx(h:aZ d)(j k:Nat)(a:k<=32):ones (cB d j) k=((d.drop (32*j)).take k).sum:=by
 unfold cB;rw[lR (vR h j),ag9,aev a]
theorem mO(h:aZ d)(j k:Nat)(a:k<=32):(d.take (32*j)).sum+ones (cB d j) k=(d.take (32*j+k)).sum:=by
 rw[Fx h j k a,pL]
def Due(b:Int)(st a:Nat)(g:Int)(k:Nat):Prop:=st<k/\k<=a/\net b k<=g
theorem Jy(b:Int)(n:Nat):bits b (n+1)=b%2::bits (b / 2) n:=by
 unfold bits;rw[List.range_succ_eq_map,aaA,CZ,af0];congr 1;refine agC λk _=>?_;exact xT b k
theorem CQ:∀(n:Nat) (b:Int),0<=b->b<2^n->blk (bits b n)=b
 | 0,b,c,a=>by
  have:b=0:=by simp at a;lia
  subst this;rfl
 | n+1,b,c,a=>by
  rw[aiq]at a;rw[Jy,blk,CQ n (b / 2) (by lia) (by lia)];lia
theorem By(b:Int)(n:Nat):aZ (bits b n):=λx a=>by
 obtain⟨k,_,rfl⟩:=abl.mp a;exact xu b k
end Tw
namespace L2
open PySem.Spec PyProof.Rows
section
theorem Inv.turn2{e p:Addr}{o:HO}{t':Nat}(I:Inv X π σ H s)(g:gK X π H e)(f:gK X π H a)
  (k:∀b u,b≠e->b≠a->s.heap.get? b=some u->h'.get? b=some u)(A:s.heap.objs.size<=p)
  (t:bB X.prog X.w (upd H p o) h' p o):Inv X π σ (upd H p o) { s with heap:=h',toks:=t' }:=by
 have E:=I.hok.fresh A;have y:∀b u,H b=some u->b≠e:=λb u q z=>by rw[z,g.1]at q;cases q
 have x:∀b u,H b=some u->b≠a:=λb u q z=>by rw[z,f.1]at q;cases q
 have h:∀b u,H b=some u->upd H p o b=some u:=λb u q=>by rw[aH (aJ q E)];exact q
 have l:∀b u,b∉[e,a]->s.heap.get? b=some u->h'.get? b=some u:=λb u d q=>k b u (λz=>d (by simp[z])) (λz=>d (by simp[z])) q;refine I.step (g':=s.gens) (d':=s.drawn) (ch:=[e,a]) (λb d=>?_) (λb u _ _ i q _=>l b u i q) (λb u _ _ i q _=>(u.slots,l b u i q))
  (λb u _ q n=>by rw[aH (aaq (aao (Heap.lt_size q) A))];exact n) (λb u i q=>(u,l b u i q))
  (λb C q=>h _ _ q) (λb j u q=>h _ _ q) (λb K q=>(#[],by rw[h _ _ q];simp)) (λm F=>?_) (λb u q=>?_) I.bare
 ·rcases aaH.mp d with rfl|d
  ·exact(g.2.2.2.1,g.2.1,g.2.2.2.2.1,g.2.2.2.2.2)
  ·rw[aaj.mp d];exact(f.2.2.2.1,f.2.1,f.2.2.2.2.1,f.2.2.2.2.2)
 ·obtain⟨j,G,J,D,r⟩:=F;exact(j,G,J,k _ j (ae2 g.2.1) (ae2 f.2.1) D,r)
 ·by_cases d:b=p
  ·subst d;rw[au]at q;cases q;exact t
  ·rw[aH d]at q;refine(I.hok b u q).stay (λc v B r=>k c v ?_ ?_ r) (λc r=>h _ _ r) λc C r=>h _ _ r
   ·rcases B with rfl|z
    ·exact y _ _ q
    ·exact y _ _ z
   ·rcases B with rfl|z
    ·exact x _ _ q
    ·exact x _ _ z
end
def V1(K:PySem.W.Frag)(a:Addr):It:=
  (λi H=>∃b x,My K H a b/\b[i]?=some x,λi H x c=>∃p y,H p=none/\x=.ref p/\c=upd H p (.tup [.int (i:Int),y]) /\ ∀b,My K H a b->b[i]?=some y,
   λi H=>∃b,My K H a b/\b.length<=i)
theorem Jd{P:Program}{w:World}(a e m:Addr)(y:e≠m):
  Turn P w K (.Tuple v n p) (V1 K a) [e,m] e (λi h=>(∃g,IsEnum h e m (i:Nat) g)/\h.IsListIter m a i) where
 mem:=by simp
 obj:=λi h f b l=>by
  obtain⟨⟨g,j⟩,o,ho,L,hd⟩:=f;rcases aaH.mp l with rfl|l
  ·exact(_,j,λc z=>by cases z)
  ·rw[aaj.mp l];exact(o,ho,λc z=>by rw[hd]at z;cases z)
 keep:=λi h h' f k=>by
  obtain⟨⟨g,j⟩,f⟩:=f;exact((g,k e (by simp) _ j),f.at λo q=>k m (by simp) o q)
 item:=by
  intro X M G N L i π s σ H E I t f J;subst M G N;obtain⟨xs,x,B,F⟩:=J;obtain⟨Q,D,d,hz⟩:=I.list B;obtain⟨u,hu,ru⟩:=D.get F;obtain⟨⟨g,j⟩,f⟩:=f;refine wpAny_pyNext_enum_item j f d.isList (x:=u) (by simpa using hu) y λh1 U A R a0 S=>?_;refine(_,rfl,wpAny_letOwnedTupleGo_enum U λC V r=>?_);have ee:e<s.heap.objs.size:=Heap.lt_size j
  have g2:C.get? s.heap.objs.size=some { cls:=.type "tuple",data:=.seq #[.int (i:Int) s.toks,u] }:=(r.2 _ (agZ ee)).trans R
  have kk:∀b o,b≠e->b≠m->s.heap.get? b=some o->C.get? b=some o:=λb o h3 h4 q=>(r.2 b h3).trans (S b o h3 h4 q);have O:bB X.prog X.w (upd H s.heap.objs.size (.tup [.int (i:Int),x])) C s.heap.objs.size (.tup [.int (i:Int),x]):=
   ((by show 2<=sizeLine;decide),[.int (i:Int) s.toks,u],.cons (_,rfl) (.cons ru .nil),_,g2,rfl,_,rfl)
  have I2:=I.turn2 (h':=C) (t':=s.toks+1) (t e (by simp)) (t m (by simp)) kk (aac _) O;have hn:H s.heap.objs.size=none:=I.hok.fresh (aac _);refine(.ref s.heap.objs.size,_,I2,rfl,(_,x,hn,rfl,rfl,λys hy=>by rw[I.list_inj hy B];exact F),((u,by simpa using V),A.extBut r.extBut (ae2 y)),λb l=>?_);have Z:=(t b l).1;have Y:b≠s.heap.objs.size:=by
   obtain⟨o,T,_⟩:=f;rcases aaH.mp l with rfl|l
   ·exact aaq ee
   ·rw[aaj.mp l];exact aaq (Heap.lt_size T)
  rw[aH Y];exact Z
 done:=by
  intro X M G N L i π s σ H E I t f J;subst M G N;obtain⟨xs,B,F⟩:=J;obtain⟨Q,D,d,hz⟩:=I.list B;obtain⟨f0,f1,f2,f3,f4,f5⟩:=t m (by simp);obtain⟨⟨g,j⟩,f⟩:=f;have hl:=D.length;exact wpAny_pyNext_enum_end (I.ok.hd L) j f d.isList (by simp;lia) λh' eb=>(rfl,I.turned (t':=s.toks) (λb o l q=>eb b o l q) f0 f1 f3 f4 f5)
 self:=λ_ _ _ _ _ f h=>by
  obtain⟨⟨g,j⟩,_⟩:=f;exact wpAny_pyIter_enum j h
section
inductive MJ(K:PySem.W.Frag)(R:It->Hp->Prop)(vs:List V)(H1:Hp):Prop
 | mk (a xs:_) (_:vs=[.ref a]) (_:My K H1 a xs) (_:R (V1 K a) H1)
def Rq(K:PySem.W.Frag)(b:TA):TI:=λ a H R=>b a H (MJ K R)
theorem uh{a:Expr}{p pos:Pos}(E:Gl X "enumerate")(C:X.mg "enumerate" = none)(F:PA X [a] t)(A:starEach [a] X.env=[(pq false (eval a X.env))]:=by rfl):
  PI X (.Tuple v n apos) (.Call (.Name "enumerate" p) [a] [] pos) (Rq X.K t):=by
 intro l s k H R I h;refine Call_ (dW I E C boot_enumerate (PyProof.Rows.callWith_type1 (S5 (F pos l s k H _ I h) λP d ⟨O,o,g,w,x⟩=>?_) A rfl));obtain⟨b,N,e,B,q⟩:=x;subst e;obtain⟨u,rfl,r⟩:=vals1 w;cases r;obtain⟨L,Q,y,S⟩:=g.list B;refine call_enumerate_list y.isList λG m j M D=>?_;refine wpAny_pyIter_enum m ?_;have J:Inv X l k o { d with heap:=G }:=g.kept (t':=d.toks) D;have z:d.heap.objs.size+1≠d.heap.objs.size:=by lia
 refine(d.heap.objs.size+1,[d.heap.objs.size+1,d.heap.objs.size],_,V1 X.K b,o,rfl,J,Jd b _ _ z,((_,m),j),λc i=>?_,q);have f:d.heap.objs.size<=c:=by
  rcases aaH.mp i with rfl|i
  ·lia
  ·rw[aaj.mp i];lia
 exact g.fpOk f (g.hok.fresh f)
end
theorem vI{a:Addr}{xs:List V}{g:TG}{k:TS}{D:Ends}{σ:St}(b:Nat->St->Hp->Prop)(v:b 0 σ H)(t:∀i σ H,i<=xs.length->b i σ H->My K H a xs)
  (r:∀i x σ H p,xs[i]?=some x->b i σ H->H p=none->g (.ref p) σ (upd H p (.tup [.int (i:Int),x])) λ d j=>k { D with nx:=b (i+1),ct:=b (i+1),bk:=D.nx } d j)(hd:∀σ H,b xs.length σ H->D.nx σ H):
  ∃W:Nat->Nat->St->Hp->Prop,(∃m,W 0 m σ H) /\ ∀i m σ H,W i m σ H ->
   ((V1 K a).stop i H/\D.nx σ H)\/((V1 K a).go i H /\ ∃N:St->Hp->Prop,(∀f H',N f H' -> ∃l,l<m/\W (i+1) l f H') /\ ∀x H',(V1 K a).Uv i H x H'->g x σ H' λ d j=>k { D with nx:=N,ct:=N,bk:=D.nx } d j):=by
 exists λi m σ H=>m=xs.length - i/\i<=xs.length/\b i σ H,(xs.length,by simp,aaK _,v);rintro i m σ H ⟨rfl,u,p⟩;have q:=t i σ H u p;by_cases h:i<xs.length
 ·refine .inr ((xs,xs[i],q,by simp[h]),b (i+1),λ f H' n=>(xs.length - (i+1),by lia,rfl,h,n),λx H' y=>?_);obtain⟨c,y,s,z,w,o⟩:=y;subst z w;exact r i y σ H c (o xs q) p s
 ·have e:i=xs.length:=by lia
  subst e;exact .inl ((xs,q,aac _),hd σ H p)
section
theorem Lk(n:X.calm=true):gn X (.builtin "sum") (λxs H Q=>∃(p:Addr) (a:List Int),xs=[.ref p]/\My X.K H p (a.map V.int)/\Q (.int a.sum) H):=by
 intro v s t H xs w Q I r h;obtain⟨p,a,rfl,l,q⟩:=h;obtain⟨u,rfl,i⟩:=vals1 r;cases i;obtain⟨o,j,k,x⟩:=I.list l;have c:=intsAre_of j;obtain⟨b,e⟩:=c.allInts.items;refine sum_intListG (xs:=b) (I.ok.hd n) (by rw[<-e];exact k.isList) λy f g m=>(.int a.sum,H,I.kept (t':=f) m,(g,?_),q);have d:numsOf (intItems b).toList=a:=by rw[<-e];exact c.numsOf
 rw[nums_intItems]at d;rw[<-d,preSum_eq,aai (by simp)]
theorem Ac:gn X (.builtin "isinstance") (λxs H Q=>∃x T t b,xs=[x,.ty T]/\qH X.K H x t/\PySem.W.kitOne X.K t (.type T)=some b/\Q (.bl b) H):=by
 intro i s g H xs j Q I r h;obtain⟨x,T,t,b,rfl,a,e,q⟩:=h;obtain⟨u,v,rfl,d,f⟩:=vals2 r;obtain rfl:v=Value.type T:=f;exact Jv I d a e λc=>(.bl b,H,I.tok c,rfl,q)
end
def bJ(X:Cx)(N:List Str)(a:Scope)(c:List (Str×Addr))(C:Addr)(s:Shared)(H:Hp)(b:List Addr):Cx:=
 { X with N:=N,s₀:=s,H₀:=H,env:=compEnvC a c C X.env,outer:=X.stack,ex:=b,fn:=λ_=>false,pn:=[],xe:=λ_ _=>False }
structure cH(X:Cx)(x:Str)(caps:List (Str×Nat))(scope:Scope)(cl:List (Str×Addr)):Prop where
 kind:scope.kind=.function
 ρ:∀y∈scope.names,y.2 ≠ .cell
 names:∀y∈scope.names,y.2=.local->scope.names.lookup y.1=some .local
 hx:scope.names.lookup x=some .local
 clos:closureFor scope X.env=pure cl
 cls:∀y c,cl.lookup y=some c->X.env.cells.lookup y=some c
 has:∀y,((relabel scope X.env).names.lookup y=some .cell\/(relabel scope X.env).names.lookup y=some .free) -> ∃c,cl.lookup y=some c
 nd:(x::caps.map (·.1)).Nodup
 cap:∀y j,(pq y j)∈caps->X.N[j]?=some y/\(X.env.scope.names.lookup y=some .cell\/X.env.scope.names.lookup y=some .free) /\
  ((relabel scope X.env).names.lookup y=some .cell\/(relabel scope X.env).names.lookup y=some .free)
def fD(a:List (Str×Nat))(σ:St):St:=a.map λp=>(σ[p.2]?).getD none
section
theorem sG(a:List (Str×Nat))(σ:St):(fD a σ).length=a.length:=by simp[fD]
theorem Inv.comp{x:Str}{h':Heap}{tk:Nat}{m:Str->Option Value}{C:Addr}(I:Inv X π σ H s)(E:cH X x D scope y)(O:∀b∈j,gK X π H b)
  (W:∀b∈j,b<s.heap.objs.size)(L:s.heap.objs.size<=a)(P:s.heap.objs.size<=C)(Y:a≠C)(K:∀b o,s.heap.get? b=some o->h'.get? b=some o)(hn:h'.Ns C m)(hL:h'.get? a=some { cls:=.type "list",data:=.seq #[] }):
  Inv (bJ X (x::D.map (·.1)) scope y C s H j) [] (none::fD D σ) (upd H a (.lst [])) { s with heap:=h',toks:=tk }:=by
 have WT:=I.hok.fresh L;have U:=I.hok.fresh P;have B:∀d c,(bJ X (x::D.map (·.1)) scope y C s H j).env.cells.lookup d=some c->X.env.cells.lookup d=some c:=λd c e=>E.cls d c e;have Yp:∀d c,X.env.cells.lookup d=some c->c<s.heap.objs.size:=λd c e=>by
  obtain⟨v,q⟩:=I.cell d c e;exact q.lt
 have up:∀b u,H b=some u->upd H a (.lst []) b=some u:=λb u q=>by rw[aH (aJ q WT)];exact q
 have ok:(bJ X (x::D.map (·.1)) scope y C s H j).Ok:=by
  refine(I.ok.mod,E.kind,I.ok.glob,I.ok.blt,P,λd z c h1 h2=>I.ok.inj d z c (B d c h1) (B z c h2),λd hy=>E.has d hy,λd c h=>absurd (show false=true from h) aar,I.ok.hd,I.ok.frames,.inl rfl,λb A=>?_,I.bs,adh I.ok.U4 I.sz,λb o e A=>?_,λb A hz=>?_,I.stack,I.stkFree)
  ·obtain⟨f0,T,S,R,Q,f5⟩:=O b A;exact(aaq (aao (W b A) P),λd c e=>Q d c (B d c e))
  ·obtain⟨f0,T,S,R,Q,f5⟩:=O b A;rcases R with z|z
   ·exact I.ok.noex b o e z
   ·exact absurd (aao (aao (Heap.lt_size e) I.ok.U4) z) (adK _)
  ·obtain⟨f0,T,S,R,Q,f5⟩:=O b A;rcases aaH.mp (I.stkSub b hz)with z|z
   ·exact T z
   ·exact S z
 exists ok,rfl,I.bare,?_,(m,hn,λi d v e1 e2 e3=>?_),λd c e=>?_,?_,λd c e=>?_,λp hp=>absurd (show p∈([]:List (Addr×Obj))from hp) (by simp),?_
 ·exact Un.laid K L WT
 ·cases i with
  | zero=>cases e2
  | succ i =>
   have g:(D.map (·.1))[i]?=some d:=e1;have n:(fD D σ)[i]?=some (some v):=e2;rw[aah]at g;unfold fD at n;rw[aah]at n;cases F:D[i]? with
   | none=>rw[F]at g;cases g
   | some p =>
    rw[F]at g n;obtain⟨t,f⟩:=p;have ey:t=d:=aap g;subst ey;have M:(σ[f]?).getD none=some v:=aap n;have Z:σ[f]?=some (some v):=by
     cases q:σ[f]? with
     | none=>rw[q]at M;cases M
     | some w=>rw[q]at M;exact congrArg some M
    obtain⟨c1,c2,c3⟩:=E.cap t f (aag F);obtain⟨m0,a0,hl⟩:=I.loc;obtain⟨u,r,l⟩:=hl f t v c1 Z (by rcases c2 with z|z;exact .inr (.inl z);exact .inr (.inr z));refine(u,r,.inr (c3,?_));rcases l with ⟨k,_⟩|⟨k,c,F,z⟩
    ·have J:X.env.scope.names.lookup t=some .local:=k;rcases c2 with z|z
     ·rw[z]at J;cases J
     ·rw[z]at J;cases J
    ·obtain⟨c',G⟩:=E.has t c3;have e4:=E.cls t c' G;rw[F]at e4;cases e4;obtain⟨o,N,hd⟩:=z;exact(c,G,o,K _ _ N,hd)
 ·obtain⟨v,o,N,hd⟩:=I.cell d c (B d c e);exact(v,o,K _ _ N,hd)
 ·show upd H a (.lst []) C=none;rw[aH (ae2 Y)];exact U
 ·have V:=Yp d c (B d c e);rw[aH (aaq (aao V L))];exact I.freeC d c (B d c e)
 ·exact I.hok.laid K L (aaK _,[],_,.nil,hL)
 ·show (none::fD D σ).length=(x::D.map (·.1)).length;simp[sG]
theorem Inv.comped{N:List Str}{C:Addr}{c:Shared}{a:St}{H':Hp}(I:Inv X π σ H s)(d:∀b∈j,gK X π H b)
  (J:Inv (bJ X N scope y C s H j) [] a H' c):Inv X π σ H' c:=by
 refine I.call' (ch:=j) (J.os.trans rfl) J.base J.hok J.bare λb e=>?_;obtain⟨l,i,k,h,g,f⟩:=d b e;exact(h,i,g,f)
def j7(J:It)(e:St)(tt:TT)(j:TE)(k:Addr->Hp->Prop)(H:Hp):Prop:=
 ∀D,H D=none -> ∃W:Nat->Nat->List V->Hp->Prop,(∃m,W 0 m [] (upd H D (.lst []))) /\ ∀i m a d,W i m a d ->
  (J.stop i d/\k D d)\/(J.go i d /\ ∀v h,J.Uv i d v h->tt (some v::e) h λb g=>if b=true then
   j (some v::e) g λy f=>f D=some (.lst a)/\a.length<sizeLine /\ ∃c,c<m/\W (i+1) c (a++[y]) (upd f D (.lst (a++[y])))else ∃c,c<m/\W (i+1) c a g)
def Vz(X:Cx)(a:List Expr)(tt:TT):Prop:=
 ∀(π:List (Addr×Obj)) (s:Shared) (σ:St) (H:Hp) (Q:Bool->Hp->Prop),Inv X π σ H s->tt σ H Q ->
  wpAny (model X.prog X.w) X.A (forIn a true λc r=>if r=true then do let b <-isTrue c X.env (eval c X.env);pure (ForInStep.yield b)else pure (ForInStep.yield r)) (TP X π σ Q) X.xe s
def Kl:TT:=λ_ H Q=>Q true H
theorem fU:Vz X [] Kl:=λ_ _ _ H _ I h=>wpAny_tests_nil (H,I,h)
theorem GC{c:Expr}{tt:TT}(h:PT X c tt):Vz X [c] tt:=λ π s σ H Q I q=>wpAny_tests_one (h π s σ H Q I q)
def dO(X:Cx)(fn:Str->Bool)(N:List Str)(a:Scope)(c:List (Str×Addr))(C:Addr)(s:Shared)(H:Hp)(b:List Addr):Cx:=
 { bJ X N a c C s H b with fn:=fn }
theorem Inv.compedG{fn:Str->Bool}{N:List Str}{C:Addr}{c:Shared}{a:St}{H':Hp}(I:Inv X π σ H s)(d:∀b∈j,gK X π H b)
  (J:Inv (dO X fn N scope y C s H j) [] a H' c):Inv X π σ H' c:=by
 refine I.call' (ch:=j) (J.os.trans rfl) J.base J.hok J.bare λb e=>?_;obtain⟨l,i,k,h,g,f⟩:=d b e;exact(h,i,g,f)
theorem En{fn:Str->Bool}{x:Str}{pos:Pos}{F:List (Str×Addr)}{iter:Expr}{J:It}{tn:Nat->Heap->Prop}{tt:TT}{C:Addr}{tk:Nat}
  {RR:Value->Addr->Result->Shared->Prop}(I:Inv X π σ H s)(hc:X.calm=true)(T:Turn X.prog X.w X.K (.Name x p) J j a tn)(hf:∀b∈j,gK X π H b)(a0:∀b∈j,b<s.heap.objs.size)(Z:s.heap.objs.size<=C)(eD:f=s.heap.objs.size)(a8:∀y c,F.lookup y=some c -> ∀b∈j,c≠b)
  (hg:PG (dO X fn (x::D.map (·.1)) scope F C s H j) (.Name x p) (fJ 0))(ht:Vz (dO X fn (x::D.map (·.1)) scope F C s H j) v tt)(he:PE (dO X fn (x::D.map (·.1)) scope F C s H j) e ta)(rd:j7 J (fD D σ) tt ta B H)
  (a9:∀f C R H' m,Inv X π σ H' R->R.heap.Ns C m->gK X π H' C->B f H'->RR (.ref f) C (.ok .next) R)
  (I0:Inv (dO X fn (x::D.map (·.1)) scope F C s H j) [] (none::fD D σ) (upd H f (.lst [])) { s with heap:=h',toks:=tk })(a5:tn 0 h'):
  codeAny (model X.prog X.w) X.A (.compLoop (.ListComp e [(.Name x p,iter,v,0)] scope pos) 0 (.ref a) (.ref f) (compEnvC scope F C X.env)) (RR (.ref f) C) { s with heap:=h',toks:=tk }:=by
 obtain⟨W,⟨m0,w0⟩,a1⟩:=rd f (I.hok.fresh (ahd eD.symm));refine codeAny_compLoop_tests (λn R=>∃i N L H',Inv (dO X fn (x::D.map (·.1)) scope F C s H j) [] (L::fD D σ) H' R/\tn i R.heap/\(∀b∈j,H' b=none)/\W i n N H') ?_ m0
  (0,[],none,_,I0,a5,λb E=>?_,w0)
 ·rintro n s3 ⟨i,N,L,H3,I3,Y,Vy,w3⟩;have V2:∀{H':Hp}{pi:List (Addr×Obj)},(∀b∈j,H' b=none)->(∀g∈pi,g.1∉j) -> ∀b∈j,gK (dO X fn (x::D.map (·.1)) scope F C s H j) pi H' b:=λ{H' pi} hn hp b E=>by
   obtain⟨f0,f1,f2,f3,f4,f5⟩:=hf b E;refine(hn b E,?_,λz=>?_,.inl E,λy c l=>a8 y c l b E,λg a7 z=>?_)
   ·exact aaq (aao (a0 b E) Z)
   ·rcases aaH.mp (I.stkSub b z)with q|q
    ·exact f1 q
    ·exact f2 q
   ·exact hp g (by simpa [dO,bJ]using a7) (by rw[z];exact E)
  have clear:∀{α:Type}{t:Sem α}{Q:α->Shared->Prop}{E':Value->Shared->Prop}{s:Shared},wpAny (model X.prog X.w) X.A t Q (λ_ _=>False) s->wpAny (model X.prog X.w) X.A t Q E' s:=λh=>wpAny_mono h (λ_ _ z=>z) λ_ _ z=>z.elim;rcases a1 i n N H3 w3 with ⟨a2,qf⟩|⟨go,a3⟩
  ·refine S5 (T.done (dO X fn (x::D.map (·.1)) scope F C s H j) rfl rfl rfl hc i [] s3 _ H3 _ I3 (V2 Vy (by simp)) Y a2) λr s4 ⟨hr,I4⟩=>?_;subst hr;obtain⟨m4,Xu,_⟩:=id I4.loc;refine a9 f _ s4 H3 m4 (I.compedG hf I4) Xu ?_ qf;have gC:s.heap.objs.size<=C:=Z;exact I.fpOk gC I4.free
  ·refine clear (S5 (T.item (dO X fn (x::D.map (·.1)) scope F C s H j) rfl rfl rfl hc i [] s3 _ H3 (λ_ _=>False) I3 (V2 Vy (by simp)) Y go) λr s4 ⟨u,hr,h4⟩=>?_);subst hr;refine clear (show wpAny (model X.prog X.w) X.A (pure () >>= λ_=>assign (.Name x p) (compEnvC scope F C X.env) u) _ _ s4 from wpAny_bind (S5 (h4:wpAny (model X.prog X.w) X.A (pure ()) _ _ s4) λ_ s5 ⟨k,H5,I5,r5,y5,UG,WN⟩=>?_));have WP:=I5.pinned (V2 WN (by simp)) (T.obj _ _ UG);refine S5 (hg _ s5 (L::fD D σ) H5 k u (λ a4 H2=>a4=some k::fD D σ/\H2=H5) WP r5 (show _/\_ from (rfl,rfl))) λ_ s6 ⟨b0,H6,I6,e6,e7⟩=>?_;subst e6 e7;have q6:=a3 k _ y5;have G:∀{O:Hp}{P:Shared}{L:Option V}{zs:List V}{M:Nat},Inv (dO X fn (x::D.map (·.1)) scope F C s H j) ([]++qj j s5.heap) (L::fD D σ) O P->M<n->W (i+1) M zs O ->
     ∃m,m<n /\ ∃i N L H',Inv (dO X fn (x::D.map (·.1)) scope F C s H j) [] (L::fD D σ) H' P/\tn i P.heap/\(∀b∈j,H' b=none)/\W i m N H':=λ{O P L zs M} S U w7=>by
    refine(M,U,i+1,zs,L,O,S.ξ,T.keep _ _ _ UG λb E o l=>(S.pin (pq b o) (aav _ (aav _ (fP E l)))).1,λb E=>?_,w7);obtain⟨o,l,d⟩:=T.obj _ _ UG b E;exact(S.pin (pq b o) (aav _ (aav _ (fP E l)))).2.1
   refine clear (S5 (ht _ s6 _ H6 _ I6 q6) λok P ⟨O,S,q7⟩=>?_);cases ok with
   | false =>
    obtain⟨M,U,w7⟩:=(show ∃M,M<n/\W (i+1) M N O from q7);exact G S U w7
   | true =>
    refine clear (S5 (he _ P _ O _ S q7) λxv s8 ⟨y,H8,I8,r8,Yq,a6,M,U,w8⟩=>?_);refine clear (S5 (bZ _ s8 _ H8 (.ref f) [y] (.ref f) [xv] (λ_ H9=>H9=upd H8 f (.lst (N++[y]))) I8 rfl (.cons r8 .nil) (f,N,y,rfl,rfl,Yq,a6,rfl)) λ_ s9 ⟨_,H9,I9,_,e9⟩=>?_);subst e9;exact G I9 U w8
 ·rw[aH (by rw[eD];exact aaq (a0 b E))];exact(hf b E).1
theorem xj{x:Str}{pos:Pos}{iter:Expr}{J:It}{M:Nat->Heap->Prop}{tt:TT}
  {RR:Value->Addr->Result->Shared->Prop}{E:Value->Shared->Prop}(I:Inv X π σ H s)(hc:X.calm=true)(q:cH X x D scope y)(T:Turn X.prog X.w X.K (.Name x p) J j a M)(st:M 0 s.heap)(P:∀b∈j,gK X π H b)
  (ht:∀C N V S,Vz (bJ X (x::D.map (·.1)) scope y C N V S) v tt)(he:∀C N V S,PE (bJ X (x::D.map (·.1)) scope y C N V S) e ta)(rd:j7 J (fD D σ) tt ta B H)
  (W:∀f C O H' m,Inv X π σ H' O->O.heap.Ns C m->gK X π H' C->B f H'->RR (.ref f) C (.ok .next) O):
  wpAny (model X.prog X.w) X.A (newList []) (λG s3=>wpAny (model X.prog X.w) X.A (newFunctionEnv scope X.env.globals y [] X.env.qual none .none (some X.env)) (λn s4 =>
   codeAny (model X.prog X.w) X.A (.compStart (.ListComp e [(.Name x p,iter,v,0)] scope pos) 0 (.ref a) G { n with scope:=relabel scope X.env }) (RR G n.locals) s4) E s3) E s:=by
 have F:∀b∈j,b<s.heap.objs.size:=λb Q=>by
  obtain⟨o,h,_⟩:=T.obj _ _ st b Q;exact Heap.lt_size h
 refine wpAny_newObj_type (wpAny_newFunctionEnv q.ρ (by intro d hy;simp at hy) (λR r k=>?_) q.kind);dsimp only at r k ⊢;obtain⟨f,t⟩:∃f:Nat,f=s.heap.objs.size:=(_,rfl)
 obtain⟨U,L⟩:∃g,g=s.heap.push { cls:=.type "list",dict:=none,data:=.seq ([]:List Value).toArray }:=(_,rfl)
 rw[<-L]at r k ⊢;rw[<-t];have hC:U.objs.size=f+1:=by rw[L,Heap.size_push,t]
 have z:s.heap.objs.size<=U.objs.size:=by rw[hC,t];exact agj _
 have Y:f≠U.objs.size:=by rw[hC];exact aaq (agf _)
 have Z:∀b o,s.heap.get? b=some o->R.get? b=some o:=λb o h=>by
  refine k.extBut b o (aaq (aao (Heap.lt_size h) z)) (Heap.get?_push_of_some _ ?_);rw[L];exact Heap.get?_push_of_some _ h
 have hL:R.get? f=some { cls:=.type "list",data:=.seq #[] }:=by
  refine k.extBut f _ (by lia) (Heap.get?_push_of_some _ ?_);rw[L,t];exact Heap.get?_push_size _ rfl
 have u:M 0 R:=T.keep _ _ _ st λb _ o h=>Z b o h;have l:=En (fn:=λ_=>false) (pos:=pos) (iter:=iter) (RR:=RR) I hc T P F z t (λd c h b Q=>(P b Q).2.2.2.2.1 d c (q.cls d c h)) (mK (i:=0) q.nd rfl (agG (lookup_relabel_local q.hx)) (ahs (lookup_relabel_local q.hx))) (ht _ _ _ _) (he _ _ _ _) rd W (I.comp (tk:=s.toks+([]:List (Str×Value)).length) q P F (by lia) (by lia) Y Z r hL) u;exact codeAny_compStart_list l (T.self _ 0 _ _ _ u l)
def Lj(a:List (Str×Nat))(tt:TT)(b:TE)(σ:St)(Q:VK):It->Hp->Prop:=λJ c=>j7 J (fD a σ) tt b (λD d=>Q (.ref D) d) c
def O1(b:TI)(a:List (Str×Nat))(tt:TT)(c:TE):TE:=λ σ H Q=>b σ H (Lj a tt c σ Q)
theorem oR{x:Str}{pos:Pos}{iter:Expr}{u:TI}{tt:TT}(L:X.calm=true)(j:cH X x D scope y)(G:PI X (.Name x p) iter u)
  (ht:∀C i l k,Vz (bJ X (x::D.map (·.1)) scope y C i l k) v tt)(K:∀C i l k,PE (bJ X (x::D.map (·.1)) scope y C i l k) e ta)(E:∀x,foldedSetIterable iter X.env x=pure x:=by intro _;rfl):
  PE X (.ListComp e [(.Name x p,iter,v,0)] scope pos) (O1 u D tt ta):=by
 intro π s σ H Q I h;rw[eval_ListComp];refine wpAny_comprehension_free (use:=none) rfl E j.clos j.kind j.names (S5 (G π s σ H _ I h) λa i O=>S5 O λV Y N=>?_);obtain⟨Z,fp,W,J,H2,d,R,T,n,P,B⟩:=N;subst d;refine xj (RR:=λt C=>compPost (model X.prog X.w) X.A X.xe none (EP X π σ Q) t C) R L j T n P ht K B ?_;intro c C z U m S F f q;exact(m,F,λr g=>(.ref c,U,S.turned (h':=r) (t':=z.toks) (λb o M d=>g.extBut b o M d) f.1 f.2.1 f.2.2.2.1 f.2.2.2.2.1 f.2.2.2.2.2,rfl,q))
theorem j0{i:Nat}{y x:Str}{pos g:Pos}{u:List (Str×Addr)}{iter:Expr}{O:TI}{tt:TT}(hN:X.N.Nodup)(WW:X.N[i]?=some y)(P:X.env.scope.names.lookup y=some .local)(hc:X.calm=true)
  (t:cH X x D scope u)(Z:PI X (.Name x p) iter O)
  (ht:∀C r E B,Vz (bJ X (x::D.map (·.1)) scope u C r E B) v tt)(he:∀C r E B,PE (bJ X (x::D.map (·.1)) scope u C r E B) e ta)
  (K:swapsWith (.ListComp e [(.Name x p,iter,v,0)] scope pos) (some (.Name y apos)) g.line X.env=pure true:=by rfl)(V:∀x,foldedSetIterable iter X.env x=pure x:=by intro _;rfl):
  PS X (.Assign [.Name y apos] (.ListComp e [(.Name x p,iter,v,0)] scope pos) g) (HB (O1 O D tt ta) (fJ i)):=by
 intro π s σ H R I h;rw[exec_Assign_Name_used _ _ _ _ K];refine wpAny_bind (wpAny_standAt (wpAny_bind ?_));show wpAny _ X.A (do let _ <-comprehension (.ListComp e [(.Name x p,iter,v,0)] scope pos) scope X.env _ (newList []) false (eval iter X.env) (some (assign (.Name y apos) X.env))) _ _ s;refine wpAny_bind (wpAny_mono (wpAny_comprehension_free (use:=some (assign (.Name y apos) X.env)) (Q:=λ_ k=>SP X π R .next k) rfl V t.clos t.kind t.names
  (S5 (Z π s σ H _ I h) λc r h1=>S5 h1 λa0 s2 h2=>?_)) (λ_ k W=>wpAny_pure (wpAny_pure W)) λ_ _ f=>f)
 obtain⟨it,fp,tn,J,H2,f,I2,T,F,f2,U⟩:=h2;subst f;refine xj (RR:=λM C=>compPost (model X.prog X.w) X.A X.xe (some (assign (.Name y apos) X.env)) (λ_ k=>SP X π R .next k) M C) I2 hc t T F f2 ht he U ?_;intro d C k H' m I' Y j q;show wpAny _ X.A (assign (.Name y apos) X.env (.ref d)) _ _ _;refine wpAny_assign_Name (mR (v:=.ref d) I' hN WW (.inl P) rfl (λG WX ch=>(m,?_,λL n=>?_)) (.inr P))
 ·obtain⟨a,S,l⟩:=ch;refine Y.sameBut S λz=>?_;rcases l with l|l
  ·exact j.2.1 (z.trans l)
  ·exact j.2.2.2.2.1 _ a l z.symm
 ·exact(_,H',WX.turned (h':=L) (t':=G.toks) (λb o hb f=>n.extBut b o hb f) j.1 j.2.1 j.2.2.2.1 j.2.2.2.2.1 j.2.2.2.2.2,q)
end
theorem oE{a:Env}{y:Str}{k:NameKind}(h:(relabel scope a).names.lookup y=some k):∃k0,(pq y k0)∈scope.names/\(k=k0\/(k0=.free/\k=.cell)):=by
 have h:=PySem.mem_of_lookup h;obtain⟨⟨n,k0⟩,d,e⟩:=abl.mp (show (pq y k)∈scope.names.map _ from h);by_cases c:(k0 == NameKind.free && a.scope.kind == .function && a.kindOf n == some .cell)=true
 ·have b:(pq n NameKind.cell)=(pq y k):=by rw[<-e];exact(if_pos c).symm
  have f:k0=.free:=by
   simp only[agV]at c;exact eq_of_beq c.1.1
  cases b;exact(_,d,.inr (f,rfl))
 ·have b:(pq n k0)=(pq y k):=by rw[<-e];exact(if_neg c).symm
  cases b;exact(_,d,.inl rfl)
section
theorem cH.zero(a:∀y∈scope.names,y.2 ≠ .free:=by decide)(i:∀y∈scope.names,y.2 ≠ .cell:=by decide)(d:scope.kind=.function:=by rfl)(b:∀y∈scope.names,y.2=.local->scope.names.lookup y.1=some .local:=by decide)
  (k:scope.names.lookup x=some .local:=by rfl):cH X x [] scope []:=by
 refine(d,i,b,k,closureFor_none a,λy c e=>(by cases e),λy f=>?_,by simp,λy j h=>nomatch h);rcases f with f|f
 all_goals
  obtain⟨l,g,e⟩:=oE f;rcases e with e|⟨e,_⟩
  ·subst e
   first|exact absurd rfl (i _ g) | exact absurd rfl (a _ g)
  ·subst e;exact absurd rfl (a _ g)
theorem cH.one{y:Str}{j:Nat}{c:Addr}(t:X.N[j]?=some y)(s:X.env.scope.names.lookup y=some .cell\/X.env.scope.names.lookup y=some .free)(u:X.env.cells.lookup y=some c)(k:closureFor scope X.env=pure [(pq y c)])
  (r:(relabel scope X.env).names.lookup y=some .cell\/(relabel scope X.env).names.lookup y=some .free)
  (a:∀z∈scope.names,z.2=.free->z.1=y:=by decide)(o:∀y∈scope.names,y.2 ≠ .cell:=by decide)(g:scope.kind=.function:=by rfl)(b:∀y∈scope.names,y.2=.local->scope.names.lookup y.1=some .local:=by decide)
  (q:scope.names.lookup x=some .local:=by rfl)(p:[x,y].Nodup:=by decide):cH X x [(pq y j)] scope [(pq y c)]:=by
 have f:([(pq y c)]:List (Str×Addr)).lookup y=some c:=by simp
 refine(g,o,b,q,k,λz d e=>?_,λz l=>?_,p,λz i h=>?_)
 ·have:=PySem.mem_of_lookup e;cases aaj.mp this;exact u
 ·have n:z=y:=by
   rcases l with l|l
   all_goals
    obtain⟨v,m,e⟩:=oE l;rcases e with e|⟨e,_⟩
    ·subst e
     first|exact absurd rfl (o _ m) | exact a _ m rfl
    ·subst e;exact a _ m rfl
  subst n;exact(c,f)
 ·cases aaj.mp h;exact(t,s,r)
end
section
variable{I:Addr}{fp wr:List Addr}{P:Nat->Value->Prop}{St:Nat->Heap->Prop}{kw:List (Str×Value)}
theorem Hd(W:Walks prog w A.in1 I fp wr n P St)(h:Nat->Nat->Bool)(H:CmpOf prog w A.in1 .Lt P h)(r:S∉fp):
  ∀(k j:Nat) (s:Shared) (x:Value) (c:Nat),j+1+k=n->St (j+1) s.heap->P (argBest h j) x->s.heap.get? S=some { cls:=.type "list",data:=.seq #[x,x] c } ->
   (∀v g t,P (argBest h (n - 1)) v->(∀b o,b∉wr->b≠S->s.heap.get? b=some o->g.get? b=some o)->R (.ok (.ret v)) { s with heap:=g,toks:=t }) ->
   codeAny (model prog w) A (.builtin "min.loop" ([.ref I,.none,.ref S],kw)) R s:=by
 have p:S∉wr:=λz=>r (W.sub _ z)
 have J:(toString "min" ++ toString ".loop" : String) = "min.loop":=by decide
 intro k
 induction k with
 | zero =>
  intro j s x c M C u l d;have L:j+1=n:=M;refine codeAny_builtin PySem.F.entry_min_loop ?_;rw[Around.under_plainId PySem.F.plain_min_loop _];show wpAny _ A.in1 (seqItems? (.ref S) >>= _) _ _ s;refine wpAny_bind (wpAny_seqItems l rfl ?_);show wpAny _ A.in1 (tryCatch (pyNext (.ref I)) _ >>= _) _ _ s;refine wpAny_bind (wpAny_tryCatch (W.done s _ _ (L ▸ C) λg t f=>?_));have a:=f S _ p l;show wpAny _ A.in1 (updateSeq S (λ_=>#[]) >>= _) _ _ _;refine wpAny_bind (wpAny_updateSeq a rfl (wpAny_bind (wpAny_letGo (wpAny_pure ?_))));exact d x _ t (by rw[<-L];exact u) λb o e i q=>(Heap.get?_update_other _ _ (ae2 i)).trans (f b o e q)
 | succ k K =>
  intro j s x c M C u l d;have O:j+1<n:=by lia
  refine codeAny_builtin PySem.F.entry_min_loop ?_;rw[Around.under_plainId PySem.F.plain_min_loop _];show wpAny _ A.in1 (seqItems? (.ref S) >>= _) _ _ s;refine wpAny_bind (wpAny_seqItems l rfl ?_);show wpAny _ A.in1 (tryCatch (pyNext (.ref I)) _ >>= _) _ _ s;refine wpAny_bind (wpAny_tryCatch (W.item (j+1) s _ _ O C λv g t pv m f=>?_));have a:=f S _ p l;show wpAny _ A.in1 (tryCatch (holding [v,v] (richCompare .Lt v x >>= _)) _ >>= _) _ _ _;refine wpAny_bind (wpAny_tryCatch (wpAny_holding (wpAny_bind (H (j+1) (argBest h j) v x _ _ _ pv u ?_))));refine wpAny_bind (wpAny_holding (wpAny_truthy_bool (wpAny_bind (wpAny_letGo (wpAny_pure ?_)))));cases N:h (j+1) (argBest h j)with
  | true =>
   simp only[if_true];refine wpAny_bind (wpAny_updateSeq a rfl (wpAny_bind (wpAny_letGo ?_)));rw[J];refine wpAny_pure (plainId_quiet PySem.F.plain_min_loop _,K (j+1) _ v _ (by lia) (W.frame _ _ _ m λb Q o q=>?_) (by simp only[argBest,N,if_true];exact pv) (Heap.get?_update_self _ a rfl) λy G B D E=>?_)
   ·exact(Heap.get?_update_other _ _ (λz:S=b=>r (by rw[z];exact Q))).trans q
   ·exact d y G B D λb o e i q=>E b o e i ((Heap.get?_update_other _ _ (ae2 i)).trans (f b o e q))
  | false =>
   simp only[acr,if_false];refine wpAny_bind (wpAny_letGo ?_);rw[J];refine wpAny_pure (plainId_quiet PySem.F.plain_min_loop _,K (j+1) _ x c (by lia) m (by simp only[argBest,N,acr,if_false];exact u) a λy G B D E=>?_);exact d y G B D λb o e i q=>E b o e i (f b o e q)
theorem Dn(W:Walks prog w A.in1 I fp wr n P St)(e:Nat->Nat->Bool)(j:CmpOf prog w A.in1 .Lt P e)(a:S∉fp)(C:0<n){s:Shared}{c:Nat}(st:St 0 s.heap)
  (l:s.heap.get? S=some { cls:=.type "list",data:=.seq #[] c })
  (i:∀v g t,P (argBest e (n - 1)) v->(∀b o,b∉wr->b≠S->s.heap.get? b=some o->g.get? b=some o)->R (.ok (.ret v)) { s with heap:=g,toks:=t }):
  codeAny (model prog w) A (.builtin "min.loop" ([.ref I,.none,.ref S],kw)) R s:=by
 have h:S∉wr:=λz=>a (W.sub _ z)
 have x:(toString "min" ++ toString ".loop" : String) = "min.loop":=by decide
 refine codeAny_builtin PySem.F.entry_min_loop ?_;rw[Around.under_plainId PySem.F.plain_min_loop _];show wpAny _ A.in1 (seqItems? (.ref S) >>= _) _ _ s;refine wpAny_bind (wpAny_seqItems l rfl ?_);show wpAny _ A.in1 (tryCatch (pyNext (.ref I)) _ >>= _) _ _ s;refine wpAny_bind (wpAny_tryCatch (W.item 0 s _ _ C st λv g t pv f k=>?_));have d:=k S _ h l;show wpAny _ A.in1 (updateSeq S (λ_=>#[v,v]) >>= _) _ _ _;refine wpAny_bind (wpAny_updateSeq d rfl ?_);rw[x];refine wpAny_pure (plainId_quiet PySem.F.plain_min_loop _,Hd W e j a (n - 1) 0 _ v _ (by lia) (W.frame _ _ _ f λb E o q=>?_) pv (Heap.get?_update_self _ d rfl) λy D r u B=>?_)
 ·exact(Heap.get?_update_other _ _ (λz:S=b=>a (by rw[z];exact E))).trans q
 ·exact i y D r u λb o p m q=>B b o p m ((Heap.get?_update_other _ _ (ae2 m)).trans (k b o p q))
end
theorem HR(a v:Value):argsOk "min" ⟨[a],[(pq (Str.ofString "default") v)]⟩:=by unfold argsOk;kernel_rfl
section
variable{l:Addr}{zs:Array (Int×Tok)}
theorem qO{Q:Value->Shared->Prop}(x:A.handled=none)(r:s.heap.IsList l (intItems zs))(c:0<zs.size)
  (h:∀v g t,(intItems zs)[argBest (λi j=>decide (numAt zs i<numAt zs j)) (zs.size - 1)]?=some v->(∀b o,s.heap.get? b=some o->g.get? b=some o)->Q v { s with heap:=g,toks:=t }):
  wpAny (model prog w) A (call (.builtin "min") [.ref l] [(pq (Str.ofString "default") q)]) Q E s:=by
 have u:(toString "min" ++ toString ".loop" : String) = "min.loop":=by decide
 refine PyProof.Rows.kmk_tree PySem.F.kind_min PySem.F.plain_min PySem.F.entry_min (HR _ _) ?_
 refine wpAny_bind (wpAny_of_eq (show Builtin.Builtins.bindParams "min" ["key","default"] 0 ⟨[],[(pq (Str.ofString "default") q)]⟩=pure [none,some q]from rfl) ?_)
 refine wpAny_bind (wpAny_pure (wpAny_bind (iter_intList r λB e y m f=>?_)));subst e;refine wpAny_bind (wpAny_newObj_type ?_);rw[u];have n:(intItems zs).size=zs.size:=by simp[intItems]
 refine wpAny_pure (plainId_quiet PySem.F.plain_min_loop _,Dn (Walks.list (A:=A.in1) x _ l f (intItems zs)) _ (CmpOf.ints_lt (numAt zs) (λ_ _=>intItems_at)) (λz=>adK _ (m _ z)) (by rw[n];exact c)
  ((_,Heap.get?_push_of_some _ (Heap.get?_push_size _ rfl),rfl,rfl),(r.push _).push _) (Heap.get?_push_size _ rfl) λv g t p k=>?_)
 refine h v g t (by rw[n]at p;exact p) λb o a=>k b o ?_ ?_ (Heap.get?_push_of_some _ (Heap.get?_push_of_some _ a))
 ·exact λz=>absurd (Heap.lt_size a) (by rw[aaj.mp z];exact adK _)
 ·refine aaq (aao (Heap.lt_size a) ?_);rw[Heap.size_push];exact agj _
end
def Ln(M:Int)(b:List Int):Prop:=M∈b /\ ∀a∈b,M<=a
theorem K4{zs:Array (Int×Tok)}(l:IntsAre r d)(e:r.toArray=intItems zs)(f:0<d.length):0<zs.size/\Ln (numAt zs (argBest (λi j=>decide (numAt zs i<numAt zs j)) (zs.size - 1))) d:=by
 have b:d=zs.toList.map (·.1):=by rw[<-l.numsOf,<-nums_intItems,<-e]
 have c:0<zs.size:=by
  have h:=f;rw[b,aaa,aae]at h;exact h
 obtain⟨n,m⟩:=argBest_lt (numAt zs) (zs.size - 1);refine(c,?_,λa g=>?_)
 ·rw[b,numAt_eq];exact getD_mem (by rw[aaa,aae];lia)
 ·rw[b]at g;obtain⟨j,k,rfl⟩:=mem_getD g;rw[aaa,aae]at k;rw[<-numAt_eq];exact m j (by lia)
section
inductive Mg(K:PySem.W.Frag)(Q:VK)(vs:List V)(_:V)(H2:Hp):Prop
 | mk (p:Addr) (ns:List Int) (_:vs=[.ref p]) (_:My K H2 p (ns.map V.int)) (_:0<ns.length) (_:∀M,Ln M ns->Q (.int M) H2)
def JQ(K:PySem.W.Frag)(b:TE)(σ:St)(Q:VK):List V->Hp->Prop:=λa c=>b σ c (Mg K Q a)
def Q7(K:PySem.W.Frag)(c:TA)(b:TE):TE:=λ a H Q=>c a H (JQ K b a Q)
theorem Mm{a :Expr}{p pos :Pos}(T:X.calm=true)(R:Gl X "min")(P:X.mg "min" = none)(U:PA X [a] t)(hd:PE X e ta)
  (j:bootBuiltins "min" = some (.builtin "min"))
  (S:backTo pos (starEach [a] X.env)=(pq false (eval a X.env))::backTo pos (starEach [] X.env):=by rfl)(m:(backTo pos (starEach [a] X.env)).any (·.1)=false:=by rfl)
  (w:(backToKw pos (keywordEach [(some (Str.ofString "default"),e,apos)] X.env)).filterMap (·.1)=[Str.ofString "default"]:=by rfl)
  (i:(backToKw pos (keywordEach [(some (Str.ofString "default"),e,apos)] X.env)).all (·.1.isSome)=true:=by rfl)
  (r:(backToKw pos (keywordEach [(some (Str.ofString "default"),e,apos)] X.env)).any (·.1.isNone)=false:=by rfl):
  PE X (.Call (.Name "min" p) [a] [(some (Str.ofString "default"),e,apos)] pos) (Q7 X.K t ta):=by
 intro z s y H Q I h;refine wpAny_Call_Name_kw (dW I R P j ?_);refine PyProof.Rows.callWith_kw (S5 (U pos z s y H _ I h) λus A ⟨vs,Y,V,F,M⟩=>?_) S m i r;show wpAny _ _ (evalAll ((do let v <-eval e X.env;standAt pos;pure v)::[])) _ _ A;refine wpAny_evalAll_cons (wpAny_bind (S5 (hd z A y Y _ V M) λdv s2 ⟨x,W,C,_,L⟩=>wpAny_bind (wpAny_standAt (wpAny_pure (wpAny_evalAll_nil ?_)))));obtain⟨b,ns,rfl,O,n,q⟩:=L;obtain⟨u,rfl,E⟩:=vals1 F;cases E;rw[w];obtain⟨Z,G,N,hz⟩:=C.list O;have B:=intsAre_of G;obtain⟨J,f⟩:=B.allInts.items;obtain⟨l,o⟩:=K4 B f n;refine qO (zs:=J) (I.ok.hd T) (by rw[<-f];exact N.isList) l λv g c j k=>?_;obtain⟨D,rfl⟩:=intItems_at j;exact(.int _,W,C.kept (t':=c) k,(D,rfl),q _ o)
end
def V3(lo st:Int)(n:Nat):It:=(λi _=>i<n,λi H x a=>a=H/\x=.int (lo+i*st),λi _=>n<=i)
theorem p8{P:Program}{w:World}(c:Addr)(lo st:Int)(n:Nat):Turn P w K e (V3 lo st n) [c] c (λi h=>IsRangeIter h c (lo+(i:Nat)*st) ((n:Int) - (i:Nat)) st) where
 mem:=by simp
 obj:=λi h q b d=>by
  have a:b=c:=by simpa using d
  subst a;exact(_,q,λv z=>by
   have J:Data.fields _=Data.cell v:=z;cases J)
 keep:=λi h g q k=>k c (by simp) _ q
 item:=by
  intro X p j r m i D s C H E I f q l;subst p j r;obtain⟨B,A,N,y,x,u⟩:=f c (by simp);have W:=Walks.range (prog:=X.prog) (w:=X.w) (I.ok.hd m) c lo st n;refine W.item i s _ _ l q λv g F M G L=>?_;obtain⟨t,rfl⟩:=M;have Q:Inv X D C H { s with heap:=g,toks:=F }:=I.turned (λb o d a=>L b o (by simpa using d) a) B A y x u
  exact(_,rfl,vN (s:={ s with heap:=g,toks:=F }) (n := "range_iterator") G rfl rfl (by decide) (.int (lo+i*st),H,Q,(t,rfl),(rfl,rfl),G,λb d=>(f b d).1))
 done:=by
  intro X p j r m i D s C H E I f q l;subst p j r;obtain⟨B,A,N,y,x,u⟩:=f c (by simp);exact wpAny_pyNext_range_end (I.ok.hd m) q (by have:n<=i:=l;lia) λg O=>(rfl,I.turned (t':=s.toks) (λb o d a=>O b o d a) B A y x u)
 self:=λ_ _ _ _ _ q h=>wpAny_pyIter_rangeiter q h
section
inductive Og(R:It->Hp->Prop)(vs:List V)(H1:Hp):Prop
 | mk (b:Nat) (_:vs=[.int 0,.int (b:Int),.int 32]) (_:b<536870912) (_:R (V3 0 32 ((b+31) / 32)) H1)
def Rf(b:TA):TI:=λ a H R=>b a H (Og R)
theorem G7(b:Nat):Builtin.Range.rangeSize 0 b 32=(((b+31) / 32:Nat):Int):=by
 unfold Builtin.Range.rangeSize;rw[if_pos (by decide)];split <;> lia
theorem iz{p q:Bool}(b:p=true)(a:q=true):(p && q)=true:=by rw[b,a];rfl
theorem J2{b:Nat}(h:b<536870912):Builtin.Range.small 0 b 32=true:=by
 unfold Builtin.Range.small Builtin.Range.rangeFitsLong;rw[G7];generalize a:(((b+31) / 32:Nat):Int)=n;have c:n<=16777216:=by lia
 have d:0<=n:=by lia
 have e:(2:Int)^63=9223372036854775808:=by decide
 rw[e,if_pos (by decide)];refine iz (iz (iz (iz (by decide) (iz (decide_eq_true ?_) (decide_eq_true ?_))) (by decide)) (iz (decide_eq_true ?_) (decide_eq_true ?_))) ?_
 ·lia
 ·lia
 ·lia
 ·lia
 ·rw[ahT];exact .inr (iz (decide_eq_true (by lia)) (decide_eq_true (by lia)))
theorem Hc{a b c:Expr}{p pos:Pos}(D:Gl X "range")(C:X.mg "range" = none)(F:PA X [a,b,c] t)(B:starEach [a,b,c] X.env=[(pq false (eval a X.env)),(pq false (eval b X.env)),(pq false (eval c X.env))]:=by rfl)
  (j:starEach [b,c] X.env=[(pq false (eval b X.env)),(pq false (eval c X.env))]:=by rfl):PI X tg (.Call (.Name "range" p) [a,b,c] [] pos) (Rf t):=by
 intro u s n H R I h;refine Call_ (dW I D C boot_range (PyProof.Rows.callWith_type1 (S5 (F pos u s n H _ I h) λM g ⟨L,v,K,w,z⟩=>?_) (by rw[B,j]) (by rw[j];rfl)));obtain⟨y,e,A,q⟩:=z;subst e;cases w with
 | cons r i =>
  cases i with
  | cons x i =>
   cases i with
   | cons m i =>
    cases i;obtain⟨d,rfl⟩:=r;obtain⟨k,rfl⟩:=x;obtain⟨f,rfl⟩:=m;refine call_range_3 (by decide) ?_ (.inl (PyProof.noPylong_small (by lia)));refine wpAny_pyIter_range (IsRange.new ..) (J2 A) ?_
    have l:Inv X u n v { g with heap:=g.heap.push { cls:=.type "range",data:=.fields #[.int 0 d,.int y k,.int 32 f] },toks:=g.toks }:=K.kept λb o e=>Heap.get?_push_of_some _ e
    refine((g.heap.push { cls:=.type "range",data:=.fields #[.int 0 d,.int y k,.int 32 f] }).objs.size,[(g.heap.push { cls:=.type "range",data:=.fields #[.int 0 d,.int y k,.int 32 f] }).objs.size],_,_,v,rfl,
     l.kept (t':=g.toks) λb o e=>Heap.get?_push_of_some _ e,p8 _ 0 32 ((y+31) / 32),?_,λb E=>?_,q)
    ·have J:(0:Int)+((0:Nat):Int)*32=0:=by decide
     have G:(((y+31) / 32:Nat):Int) - ((0:Nat):Int)=Builtin.Range.rangeSize 0 y 32:=by rw[G7];simp
     show IsRangeIter _ _ ((0:Int)+((0:Nat):Int)*32) ((((y+31) / 32:Nat):Int) - ((0:Nat):Int)) 32;rw[J,G];exact Heap.get?_push_size _ rfl
    ·have e:b=(g.heap.push { cls:=.type "range",data:=.fields #[.int 0 d,.int y k,.int 32 f] }).objs.size:=by simpa using E
     subst e;exact l.fpOk (aac _) (l.hok.fresh (aac _))
end
theorem Dd{lo st:Int}{n:Nat}{g:TG}{h:TS}{D:Ends}{σ:St}(a:Nat->St->Hp->Prop)(o:a 0 σ H)
  (l:∀(i:Nat) σ H,i<n->a i σ H->g (.int (lo+i*st)) σ H λ b f=>h { D with nx:=a (i+1),ct:=a (i+1),bk:=D.nx } b f)(hd:∀σ H,a n σ H->D.nx σ H):
  ∃W:Nat->Nat->St->Hp->Prop,(∃m,W 0 m σ H) /\ ∀i m σ H,W i m σ H ->
   ((V3 lo st n).stop i H/\D.nx σ H)\/((V3 lo st n).go i H /\ ∃N:St->Hp->Prop,(∀c H',N c H' -> ∃j,j<m/\W (i+1) j c H') /\ ∀x H',(V3 lo st n).Uv i H x H'->g x σ H' λ b f=>h { D with nx:=N,ct:=N,bk:=D.nx } b f):=by
 exists λi m σ H=>m=n - i/\i<=n/\a i σ H,(n,by simp,aaK _,o);rintro i m σ H ⟨rfl,q,p⟩;by_cases d:i<n
 ·refine .inr (d,a (i+1),λ c H' k=>(n - (i+1),by lia,rfl,d,k),λx H' y=>?_);obtain⟨rfl,rfl⟩:=y;exact l i σ _ d p
 ·have e:i=n:=by lia
  subst e;exact .inl (aac _,hd σ H p)
def Wk(K:PySem.W.Frag)(a:Addr)(xs:List V):It:=
 (λi H=>My K H a xs/\i<xs.length,λi H x b=>b=H/\xs[xs.length - 1 - i]?=some x,λi _=>xs.length<=i)
theorem KD{P:Program}{w:World}(a j:Addr)(xs:List V):Turn P w K e (Wk K a xs) [j] j (λi h=>i<=xs.length/\h.IsRevIter j a ((xs.length:Int) - 1 - (i:Nat))) where
 mem:=by simp
 obj:=λi h g b l=>by
  have f:b=j:=by simpa using l
  subst f;obtain⟨_,o,f,c,d⟩:=g;exact(o,f,λv z=>by rw[d]at z;cases z)
 keep:=λi h q g k=>(g.1,g.2.at λo f=>k j (by simp) o f)
 item:=by
  intro X y r A O i M s L H E I n g t;subst y r A;obtain⟨U,hi⟩:=t;obtain⟨a0,R,p,hz⟩:=I.list U;obtain⟨x,N⟩:∃x,xs[xs.length - 1 - i]?=some x:=(_,aad (by lia));obtain⟨u,T,S⟩:=R.get N;obtain⟨G,F,Y,D,C,B⟩:=n j (by simp);obtain⟨J,g⟩:=g;have f:(xs.length:Int) - 1 - (i:Nat)=((xs.length - 1 - i:Nat):Int):=by lia
  rw[f]at g;refine wpAny_pyNext_rev_item g p.isList (x:=u) (by simpa using T) λq m Q=>?_;have I1:Inv X M L H { s with heap:=q }:=I.turned (t':=s.toks) (λb o l f=>(Q.2 b l).trans f) G F D C B;have e2:((xs.length - 1 - i:Nat):Int) - 1=(xs.length:Int) - 1 - ((i+1:Nat):Int):=by lia
  rw[e2]at m;obtain⟨o,f,c,d⟩:=id m;exact(u,rfl,vN (s:={ s with heap:=q }) f c d (by decide) (x,H,I1,S,(rfl,N),(by lia,m),λb l=>(n b l).1))
 done:=by
  intro X y r A O i M s L H E I n g t;subst y r A;obtain⟨G,F,Y,D,C,B⟩:=n j (by simp);obtain⟨J,g⟩:=g;have f:(xs.length:Int) - 1 - (i:Nat) = -1:=by have:xs.length<=i:=t;lia
  rw[f]at g;exact wpAny_pyNext_rev_end (I.ok.hd O) g λq Z=>(rfl,I.turned (t':=s.toks) (λb o l f=>Z b o l f) G F D C B)
 self:=λ_ _ _ _ _ g h=>wpAny_pyIter_revIter g.2 h
section
inductive QM(K:PySem.W.Frag)(R:It->Hp->Prop)(vs:List V)(H1:Hp):Prop
 | mk (a xs:_) (_:vs=[.ref a]) (_:My K H1 a xs) (_:R (Wk K a xs) H1)
def SN(K:PySem.W.Frag)(b:TA):TI:=λ a H R=>b a H (QM K R)
theorem J5{a:Expr}{p pos:Pos}(C:Gl X "reversed")(B:X.mg "reversed" = none)(E:PA X [a] t)(y:bootBuiltins "reversed" = some (.type "reversed"))(z:starEach [a] X.env=[(pq false (eval a X.env))]:=by rfl):
  PI X tg (.Call (.Name "reversed" p) [a] [] pos) (SN X.K t):=by
 intro k s j H R I h;refine Call_ (dW I C B y (PyProof.Rows.callWith_type1 (S5 (E pos k s j H _ I h) λJ d ⟨G,m,i,v,w⟩=>?_) z rfl));obtain⟨b,g,e,A,q⟩:=w;subst e;obtain⟨u,rfl,n⟩:=vals1 v;cases n;obtain⟨f,r,x,L⟩:=i.list A;refine call_reversed_list x.isList ?_;have M:=r.length;have l:({ d with heap:=d.heap.push (revObj b ((f.toArray.size:Int) - 1)) }:Shared).heap.IsRevIter d.heap.objs.size b ((g.length:Int) - 1 - ((0:Nat):Int)):=by
  exists _,Heap.get?_push_size _ rfl,rfl;show Data.fields #[.ref b,rawInt ((f.toArray.size:Int) - 1)]=_;have e:(f.toArray.size:Int) - 1=(g.length:Int) - 1 - ((0:Nat):Int):=by simp;lia
  rw[e]
 refine wpAny_pyIter_revIter l ?_;have F:Inv X k j m { d with heap:=d.heap.push (revObj b ((f.toArray.size:Int) - 1)) }:=i.kept (t':=d.toks) λc o e=>Heap.get?_push_of_some _ e;refine(d.heap.objs.size,[d.heap.objs.size],_,Wk X.K b g,m,rfl,F,KD b _ g,(aaK _,l),λc D=>?_,q);have e:c=d.heap.objs.size:=by simpa using D
 subst e;exact i.fpOk (aac _) (i.hok.fresh (aac _))
end
theorem G4{a:Addr}{xs:List V}{g:TG}{j:TS}{D:Ends}{σ:St}(b:Nat->St->Hp->Prop)(s:b 0 σ H)(q:∀i σ H,i<=xs.length->b i σ H->My K H a xs)
  (o:∀i x σ H,i<xs.length->xs[xs.length - 1 - i]?=some x->b i σ H->g x σ H λ c h=>j { D with nx:=b (i+1),ct:=b (i+1),bk:=D.nx } c h)(hd:∀σ H,b xs.length σ H->D.nx σ H):
  ∃W:Nat->Nat->St->Hp->Prop,(∃m,W 0 m σ H) /\ ∀i m σ H,W i m σ H ->
   ((Wk K a xs).stop i H/\D.nx σ H)\/((Wk K a xs).go i H /\ ∃N:St->Hp->Prop,(∀d H',N d H' -> ∃k,k<m/\W (i+1) k d H') /\ ∀x H',(Wk K a xs).Uv i H x H'->g x σ H' λ c h=>j { D with nx:=N,ct:=N,bk:=D.nx } c h):=by
 exists λi m σ H=>m=xs.length - i/\i<=xs.length/\b i σ H,(xs.length,by simp,aaK _,s);rintro i m σ H ⟨rfl,r,p⟩;by_cases f:i<xs.length
 ·refine .inr ((q i σ H r p,f),b (i+1),λ d H' l=>(xs.length - (i+1),by lia,rfl,f,l),λx H' y=>?_);obtain⟨rfl,n⟩:=y;exact o i x σ _ f n p
 ·have e:i=xs.length:=by lia
  subst e;exact .inl (aac _,hd σ H p)
section
theorem CP{T f b:String}{v x:Builtin}{a:List Value}{j:List (Str×Value)}{S:_root_.PySem.Spec}{Q Q1:Value->Shared->Prop}(i:TypeCalled T f b)
  (M:checkTypeCall T (a,j)=pure ())(q:checkBuiltinCall f (.type T::a,j)=pure ())(I:entryFor table f=some v)(J:entryFor table b=some x)
  (g:Meets (v (.type T::a,j)) S)(h:S A.in1 (wants Q1 E) s)
  (D:∀d l,Q1 d l->l.TypeIs d T/\argsOk b (d::a,j) /\ ∃n,Meets (x (d::a,j)) n/\n A.in1 (wants (λr u=>r=.none/\Q d u) E) l):
  wpAny (model prog w) A (call (.type T) a j) Q E s:=by
 obtain⟨c,O,z⟩:=i.mro;have t:=i.made;have y:=i.sub;refine wpAny_call (codeAny_of_tree ?_);show wpAny _ _ (callAny (.type T) _) _ _ _;refine wpAny_pure (Code.quiet_builtin _ (by decide +kernel),codeAny_builtin PySem.F.entry_type_call ?_);rw[Around.under_plain (weight_type_call_type T a j) (units_type_call_type T a j)];have R:=i.notType;have P:=i.canCreate
 repeat (any_goals (first|assumption|wp_step))
 refine codeAny_mono (codeAny_call_builtin i.plain I (wpAny_of_eq q (g prog w A.in1 _ s h))) λr l m=>?_;cases r with
 | error e=>exact m
 | ok H =>
  cases H with
  | ret d =>
   obtain⟨C,p,n,G,o⟩:=D _ _ m;have L:=i.init.lookup;have N:=i.init.bind d
   repeat (any_goals (first|assumption|wp_step))
   refine codeAny_mono (codeAny_call_builtin i.init.plain J (i.init.check _ _ _ _ _ _ _ _ C p (G prog w A.in1 _ l o))) λB u k=>?_;cases B with
   | error e=>exact k
   | ok K =>
    cases K with
    | ret r =>
     obtain⟨rfl,U⟩:=k
     repeat (any_goals (first|assumption|wp_step))
    | _=>exact k.elim
  | _=>exact m.elim
theorem Br{T b:String}{c:List (Str×Value)}(h:typeLookup (.type T) "__init__" = pure (some (.builtin "object.__init__")))
  (g:Bind.madeBy (.type T)=pure (some b))(f:(some b != some "object.__new__")=true):
  Meets (Builtin.«object.__init__» (q::r,c)) (λ_ R s=>s.TypeIs q T/\R (.ok (.ret .none)) s):=by
 refine Meets.of_wp λprog w A R s e=>?_;obtain⟨i,d⟩:=e;cases r with
 | nil =>
  cases c with
  | nil=>exact wpAny_pure (_,rfl,d)
  | cons p c =>
   repeat (any_goals (first|assumption|wp_step))
   exact(_,rfl,d)
 | cons a r =>
  repeat (any_goals (first|assumption|wp_step))
  exact(_,rfl,d)
end
theorem Ef(a v:Value):checkTypeCall "enumerate" ⟨[a],[(pq (Str.ofString "start") v)]⟩=pure ():=by kernel_rfl
theorem HJ(a v:Value):checkBuiltinCall "enumerate.__new__" ⟨[.type "enumerate",a],[(pq (Str.ofString "start") v)]⟩=pure ():=by kernel_rfl
theorem Dl(o a v:Value):argsOk "object.__init__" ⟨[o,a],[(pq (Str.ofString "start") v)]⟩:=by
 unfold argsOk
 rw[signature?_of (id := "object.__init__") (n:=['_','_','t','i','n','i','_','_']) (o:=['t','c','e','j','b','o']) (by kernel_rfl) PySem.F.owner_object]
 kernel_rfl
open AutoSeq1 (wpAny_loadPart')in
set_option maxHeartbeats 4000000 in
theorem Dc(l:Addr)(items:Array Value)(n:Nat)(e:Option Addr)(k:Array (Option Value))(t:Tok):
  Meets (Builtin.«enumerate.__new__» ⟨[.type "enumerate",.ref l],[(pq (Str.ofString "start") (.int 1 t))]⟩) (λ_ R s=>s.heap.get? l=some { cls:=.type "list",dict:=e,data:=.seq items n,slots:=k } /\
   R (.ok (.ret (.ref (s.heap.push { cls:=.type "list_iterator",data:=.fields #[.ref l,.int 0 0] }).objs.size)))
    { s with heap:=(s.heap.push { cls:=.type "list_iterator",data:=.fields #[.ref l,.int 0 0] }).push { cls:=.type "enumerate",data:=.fields #[.none,.bool false,.ref s.heap.objs.size,rawInt 1,.none,.none] } }):=
 .of_wp λf w A R s h=>by
  obtain⟨o,g,d,j,m⟩:=s;obtain⟨a,h⟩:=h;have i:=sub_enumerate;have b:Heap.IsList (Shared.heap (o,g,d,j,m)) l items:=(_,a,rfl,n,rfl)
  wp_walk using wpAny_loadPart' a
  refine wpAny_stack_any λp=>wpAny_pure ?_;split
  ·rename_i c _ _ _ _ _
   cases (c == Value.type "enumerate")
   ·wp_walk using wpAny_loadPart' a,wpAny_pyIter_list b
    exact(_,rfl,h)
   ·wp_walk using wpAny_loadPart' a,wpAny_pyIter_list b
    exact(_,rfl,h)
  ·wp_walk using wpAny_loadPart' a,wpAny_pyIter_list b
   exact(_,rfl,h)
section
theorem Dy{l:Addr}{items:Array Value}{t:Tok}{Q:Value->Shared->Prop}(r:s.heap.IsList l items)
  (h:∀g,IsEnum g (s.heap.objs.size+1) s.heap.objs.size 1 .none->g.IsListIter s.heap.objs.size l 0->(∀b o,s.heap.get? b=some o->g.get? b=some o)->Q (.ref (s.heap.objs.size+1)) { s with heap:=g }):
  wpAny (model prog w) A (call (.type "enumerate") [.ref l] [(pq (Str.ofString "start") (.int 1 t))]) Q E s:=by
 obtain⟨⟨c,i,u,m⟩,p,f,n,hd⟩:=r
 replace f:c=.type "list":=f
 replace hd:u=.seq items n:=hd
 subst f hd
 have j:(s.heap.push { cls:=.type "list_iterator",data:=.fields #[.ref l,.int 0 0] }).objs.size=s.heap.objs.size+1:=Heap.size_push ..
 refine CP (Q1:=λa d=>d.TypeIs a "enumerate" /\ Q a d) PySem.F.called_enumerate (Ef _ _) (HJ _ _) PySem.F.entry_enumerate_new PySem.F.entry_object_init (Dc l items n i m t) (p,?_) λa d e =>
  (e.1,Dl _ _ _,_,Br PySem.F.called_enumerate.init.lookup PySem.F.called_enumerate.made (by decide),e.1,rfl,e.2)
 show _/\_;rw[j]
 have k:IsEnum ((s.heap.push { cls:=.type "list_iterator",data:=.fields #[.ref l,.int 0 0] }).push { cls:=.type "enumerate",data:=.fields #[.none,.bool false,.ref s.heap.objs.size,rawInt 1,.none,.none] }) (s.heap.objs.size+1) s.heap.objs.size 1 .none:=by
  have:=Heap.get?_push_size (s.heap.push { cls:=.type "list_iterator",data:=.fields #[.ref l,.int 0 0] }) (o:={ cls:=.type "enumerate",data:=.fields #[.none,.bool false,.ref s.heap.objs.size,rawInt 1,.none,.none] }) rfl
  rw[j]at this;exact this
 exact((_,k,rfl),h _ k (_,Heap.get?_push_of_some _ (Heap.get?_push_size _ rfl),rfl,rfl) λb o q=>Heap.get?_push_of_some _ (Heap.get?_push_of_some _ q))
end
theorem Nr{prog:Program}{w:World}{A:Around}(d:A.handled=none)(c l:Addr)(b:l≠c)(items:Array Value):
  Draws prog w A c [c,l] (items.size+1) (λi v=>∃j,i=j+1/\items[j]?=some v) (λi h=>∃j,i=j+1/\h.IsListIter c l j/\h.IsList l items) where
 live:=λ_ _ a=>by
  obtain⟨j,_,a⟩:=a;exact(Draws.list (prog:=prog) (w:=w) d c l b items).live j _ a
 frame:=λ_ _ _ a k=>by
  obtain⟨j,e,a⟩:=a;exact(j,e,(Draws.list (prog:=prog) (w:=w) d c l b items).frame j _ _ a k)
 item:=λi s Q E n a f=>by
  obtain⟨j,rfl,a⟩:=a;exact(Draws.list (prog:=prog) (w:=w) d c l b items).item j s Q E (by lia) a λx g t p q r=>f x g t (j,rfl,p) (j+1,rfl,q) r
 done:=λs Q E a m=>by
  obtain⟨j,e,a⟩:=a;have:j=items.size:=by lia
  subst this;exact(Draws.list (prog:=prog) (w:=w) d c l b items).done s Q E a m
def Wl(K:PySem.W.Frag)(a:Addr):It:=
  (λi H=>∃b x,My K H a b/\b[i]?=some x,λi H x c=>∃p y,H p=none/\x=.ref p/\c=upd H p (.tup [.int ((i+1:Nat):Int),y]) /\ ∀b,My K H a b->b[i]?=some y,
   λi H=>∃b,My K H a b/\b.length<=i)
theorem JW{prog:Program}{w:World}{A:Around}{E:Value->Shared->Prop}{s:Shared}{e l:Addr}{i:Nat}{k:Int}{items:Array Value}{Q:Option Value->Shared->Prop}(p:A.handled=none)
  (f:IsEnum s.heap e a k q)(d:s.heap.IsListIter a l i)(n:s.heap.IsList l items)(j:items[i]?=none)(u:∀g,Heap.ExtBut a s.heap g->Q none { s with heap:=g }):wpAny (model prog w) A (pyNext (.ref e)) Q E s:=by
 have h:s.TypeIs (.ref e) "enumerate":=(_,f,rfl)
 unfold pyNext
 refine wpAny_bind (wpAny_attempt (wpAny_callSpecial?_slot (name:=Str.ofString "__next__") h PySem.F.slot_enumerate_next
  (wpAny_call_entry PySem.F.slot_enumerate_next h PySem.F.entry_enumerate_next ?_ (PySem.F.args_enumerate_next_1 _))))
 show wpAny _ _ (field (.ref e) 2 >>= _) _ _ _;refine wpAny_bind (wpAny_field f rfl (x:=.ref a) rfl ?_);refine wpAny_bind (wpAny_nextOf_list_end p d n j λg x r c=>?_);obtain⟨o,m,t⟩:=c
 refine wpAny_bind (wpAny_isInstance (T := "StopIteration") (b:=true) (o,m,t) isSubtype_stop ?_)
 exact wpAny_pure (u _ r)
theorem qg{a b:Addr}{o u:Obj}(d:h'.get? a=some o)(c:h'.get? b=some u)(e:o.cls≠u.cls):a≠b:=by
 rintro rfl;rw[d]at c;cases c;exact e rfl
theorem Fw{P:Program}{w:World}(a e l:Addr)(G:e≠l):
  Turn P w K (.Tuple v n p) (Wl K a) [e,l] e (λi h=>(∃g,IsEnum h e l ((i+1:Nat):Int) g)/\h.IsListIter l a i) where
 mem:=by simp
 obj:=λi h f b t=>by
  obtain⟨⟨g,m⟩,o,ho,Q,hd⟩:=f;rcases aaH.mp t with rfl|t
  ·exact(_,m,λc z=>by cases z)
  ·rw[aaj.mp t];exact(o,ho,λc z=>by rw[hd]at z;cases z)
 keep:=λi h h' f k=>by
  obtain⟨⟨g,m⟩,f⟩:=f;exact((g,k e (by simp) _ m),f.at λo q=>k l (by simp) o q)
 item:=by
  intro X M V Z Q i π s σ H E I L f Y;subst M V Z;obtain⟨xs,x,O,U⟩:=Y;obtain⟨y,T,d,hz⟩:=I.list O;obtain⟨u,hu,ru⟩:=T.get U;obtain⟨⟨g,m⟩,f⟩:=f;obtain⟨oi,C,Wm,_⟩:=id f;obtain⟨ol,B,D,_⟩:=id d.isList;have N:a≠l:=qg B C (by rw[D,Wm];decide)
  have a1:e≠a:=qg m B (by rw[D];show Value.type "enumerate" ≠ Value.type "list";decide)
  have a4:i<y.length:=(aab.mp hu).1;refine wpAny_pyNext_enum_itemD (Nr (A:=X.A.in1) (I.ok.hd Q) l a N y.toArray) m (i,rfl,f,d.isList) (by simpa using a4) G (by simp[G,a1]) λJ h1 S M a6 r a3 b1 a5=>?_;obtain⟨j,hj,a2⟩:=M;have ej:j=i:=by lia
  subst ej;have eu:J=u:=by
   have:y[j]?=some J:=by simpa using a2
   rw[hu]at this;exact(aap this).symm
  subst eu;obtain⟨j',b2,r,_⟩:=r;have b0:j'=j+1:=by lia
  subst b0;refine(_,rfl,wpAny_letOwnedTupleGo_enum a6 λR a7 F=>?_);have ee:e<s.heap.objs.size:=Heap.lt_size m
  have g2:R.get? s.heap.objs.size=some { cls:=.type "tuple",data:=.seq #[.int ((j+1:Nat):Int) S,J] }:=(F.2 _ (agZ ee)).trans a3
  have kk:∀b o,b≠e->b≠l->s.heap.get? b=some o->R.get? b=some o:=λb o h3 h4 q=>(F.2 b h3).trans (a5 b o h3 h4 q);have a0:bB X.prog X.w (upd H s.heap.objs.size (.tup [.int ((j+1:Nat):Int),x])) R s.heap.objs.size (.tup [.int ((j+1:Nat):Int),x]):=
   ((by show 2<=sizeLine;decide),[.int ((j+1:Nat):Int) S,J],.cons (_,rfl) (.cons ru .nil),_,g2,rfl,_,rfl)
  have I2:=I.turn2 (h':=R) (t':=S+1) (L e (by simp)) (L l (by simp)) kk (aac _) a0;have hn:H s.heap.objs.size=none:=I.hok.fresh (aac _);refine(.ref s.heap.objs.size,_,I2,rfl,(_,x,hn,rfl,rfl,λys hy=>by rw[I.list_inj hy O];exact U),((J,by simpa using a7),r.extBut F.extBut (ae2 G)),λb t=>?_);have a9:=(L b t).1;have a8:b≠s.heap.objs.size:=by
   rcases aaH.mp t with rfl|t
   ·exact aaq ee
   ·rw[aaj.mp t];exact aaq (Heap.lt_size C)
  rw[aH a8];exact a9
 done:=by
  intro X M V Z Q i π s σ H E I L f Y;subst M V Z;obtain⟨xs,O,U⟩:=Y;obtain⟨y,T,d,hz⟩:=I.list O;obtain⟨f0,f1,f2,f3,f4,f5⟩:=L l (by simp);obtain⟨⟨g,m⟩,f⟩:=f;have hl:=T.length;obtain⟨oi,C,Wm,_⟩:=id f;obtain⟨ol,B,D,_⟩:=id d.isList;have N:a≠l:=qg B C (by rw[D,Wm];decide);refine JW (I.ok.hd Q) m f d.isList (by simp;lia) λh' eb=>(rfl,I.turned (t':=s.toks) (λb o t e=>eb b o t e) f0 f1 f3 f4 f5)
 self:=λ_ _ _ _ _ f h=>by
  obtain⟨⟨g,m⟩,_⟩:=f;exact wpAny_pyIter_enum m h
section
variable{M:Model}{env:Env}
theorem uY{pos:Pos}{T:String}{e:Expr}{b:List Keyword}{Q:Value->Shared->Prop}
  (h:wpAny M A (spliced (backTo pos (starEach (e::v) env))) (λj d=>wpAny M A (evalAll ((backToKw pos (keywordEach b env)).map (·.2)))
   (λi g=>wpAny M A (call (.type T) j (((backToKw pos (keywordEach b env)).filterMap (·.1)).zip i)) Q E g) E d) E s)
  (m:backTo pos (starEach (e::v) env)=(pq false (eval e env))::backTo pos (starEach v env):=by rfl)(l:(backTo pos (starEach (e::v) env)).any (·.1)=false:=by rfl)
  (c:(backToKw pos (keywordEach b env)).all (·.1.isSome)=true:=by rfl)(f:(backToKw pos (keywordEach b env)).any (·.1.isNone)=false:=by rfl):
  wpAny M A (callWith pos (.type T) [] (backTo pos (starEach (e::v) env)) (backToKw pos (keywordEach b env))) Q E s:=by
 unfold callWith;have n:wpAny M A (evalArgs (.type T) true (backTo pos (starEach (e::v) env)) (backToKw pos (keywordEach b env))) (λa d=>wpAny M A (call (.type T) ([]++a.pos) a.kw) Q E d) E s:=by
  rw[m]at h ⊢;exact PyProof.Rows.evalArgs_kwB c h
 refine wpAny_bind (wpAny_holding (S5 n λa d o=>wpAny_bind (wpAny_standAt ?_)));simp only[l,f,ahJ];refine wpAny_bind (wpAny_pure ?_);exact wpAny_bind (S5 o λr g k=>wpAny_bind (wpAny_holding (wpAny_point (wpAny_pure k))))
end
section
inductive Ks(K:PySem.W.Frag)(R:It->Hp->Prop)(vs:List V)(d:V)(H2:Hp):Prop
 | mk (a xs:_) (_:d=.int 1) (_:vs=[.ref a]) (_:My K H2 a xs) (_:R (Wl K a) H2)
def Ho(K:PySem.W.Frag)(b:TE)(σ:St)(R:It->Hp->Prop):List V->Hp->Prop:=λa c=>b σ c (Ks K R a)
def QF(K:PySem.W.Frag)(c:TA)(b:TE):TI:=λ a H R=>c a H (Ho K b a R)
theorem Bl{a :Expr}{p pos :Pos}{l:Pos}(T:Gl X "enumerate")(Q:X.mg "enumerate" = none)(V:PA X [a] t)(hd:PE X e ta)
  (U:backTo pos (starEach [a] X.env)=(pq false (eval a X.env))::backTo pos (starEach [] X.env):=by rfl)(z:(backTo pos (starEach [a] X.env)).any (·.1)=false:=by rfl)
  (B:(backToKw pos (keywordEach [(some (Str.ofString "start"),e,apos)] X.env)).filterMap (·.1)=[Str.ofString "start"]:=by rfl)
  (m:(backToKw pos (keywordEach [(some (Str.ofString "start"),e,apos)] X.env)).all (·.1.isSome)=true:=by rfl)
  (A:(backToKw pos (keywordEach [(some (Str.ofString "start"),e,apos)] X.env)).any (·.1.isNone)=false:=by rfl):
  PI X (.Tuple v n l) (.Call (.Name "enumerate" p) [a] [(some (Str.ofString "start"),e,apos)] pos) (QF X.K t ta):=by
 intro w s r H R I h;refine wpAny_Call_Name_kw (dW I T Q boot_enumerate ?_);refine uY (S5 (V pos w s r H _ I h) λus D ⟨vs,Z,Y,J,M⟩=>?_) U z m A;show wpAny _ _ (evalAll ((do let f <-eval e X.env;standAt pos;pure f)::[])) _ _ D;refine wpAny_evalAll_cons (wpAny_bind (S5 (hd w D r Z _ Y M) λdv i ⟨x,E,o,G,L⟩=>wpAny_bind (wpAny_standAt (wpAny_pure (wpAny_evalAll_nil ?_)))));obtain⟨b,xs,rfl,rfl,P,q⟩:=L;obtain⟨u,rfl,F⟩:=vals1 J;cases F;obtain⟨a0,rfl⟩:=G;rw[B];obtain⟨a1,rv,N,hz⟩:=o.list P;refine Dy N.isList λg k C S=>?_;refine wpAny_pyIter_enum k ?_;have W:Inv X w r E { i with heap:=g }:=o.kept (t':=i.toks) S;have O:i.heap.objs.size+1≠i.heap.objs.size:=by lia
 refine(i.heap.objs.size+1,[i.heap.objs.size+1,i.heap.objs.size],_,Wl X.K b,E,rfl,W,Fw b _ _ O,((_,k),C),λc y=>?_,q);have j:i.heap.objs.size<=c:=by
  rcases aaH.mp y with rfl|y
  ·lia
  ·rw[aaj.mp y];lia
 exact o.fpOk j (o.hok.fresh j)
end
theorem xF{a:Addr}{xs:List V}{g:TG}{k:TS}{D:Ends}{σ:St}(b:Nat->St->Hp->Prop)(v:b 0 σ H)(t:∀i σ H,i<=xs.length->b i σ H->My K H a xs)
  (r:∀i x σ H p,xs[i]?=some x->b i σ H->H p=none->g (.ref p) σ (upd H p (.tup [.int ((i+1:Nat):Int),x])) λ d j=>k { D with nx:=b (i+1),ct:=b (i+1),bk:=D.nx } d j)(hd:∀σ H,b xs.length σ H->D.nx σ H):
  ∃W:Nat->Nat->St->Hp->Prop,(∃m,W 0 m σ H) /\ ∀i m σ H,W i m σ H ->
   ((Wl K a).stop i H/\D.nx σ H)\/((Wl K a).go i H /\ ∃N:St->Hp->Prop,(∀f H',N f H' -> ∃l,l<m/\W (i+1) l f H') /\ ∀x H',(Wl K a).Uv i H x H'->g x σ H' λ d j=>k { D with nx:=N,ct:=N,bk:=D.nx } d j):=by
 exists λi m σ H=>m=xs.length - i/\i<=xs.length/\b i σ H,(xs.length,by simp,aaK _,v);rintro i m σ H ⟨rfl,u,p⟩;have q:=t i σ H u p;by_cases h:i<xs.length
 ·refine .inr ((xs,xs[i],q,by simp[h]),b (i+1),λ f H' n=>(xs.length - (i+1),by lia,rfl,h,n),λx H' y=>?_);obtain⟨c,y,s,z,w,o⟩:=y;subst z w;exact r i y σ H c (o xs q) p s
 ·have e:i=xs.length:=by lia
  subst e;exact .inl ((xs,q,aac _),hd σ H p)
mutual
inductive vM(K:PySem.W.Frag)(H:Hp):V->PyData->Prop where
 | non:vM K H .non .none
 | bl (b:Bool):vM K H (.bl b) (.bool b)
 | int (i:Int):vM K H (.int i) (.int i)
 | str (x:Str):vM K H (.str x) (.str x)
 | lst {a:Addr}{xs:List V}{ds:List PyData} (h:My K H a xs) (r:lg K H xs ds):vM K H (.ref a) (.list ds)
 | tup {a:Addr}{xs:List V}{ds:List PyData} (h:S7 K H a xs) (r:lg K H xs ds):vM K H (.ref a) (.tuple ds)
inductive lg(K:PySem.W.Frag)(H:Hp):List V->List PyData->Prop where
 | nil:lg K H [] []
 | cons {x:V}{xs:List V}{d:PyData}{ds:List PyData} (h:vM K H x d) (r:lg K H xs ds):lg K H (x::xs) (d::ds)
end
section
mutual
theorem vM.reads(I:Inv X π σ H s){x:V}{d:PyData}{u:Value}:vM X.K H x d->RelV x u -> ∃j,Reads s.heap u d j
 | .non,r=>(_,by cases (show u=Value.none from r);exact .none)
 | .bl b,r=>(_,by cases (show u=Value.bool b from r);exact .bool b)
 | .int i,r=>by
  obtain⟨t,rfl⟩:=r;exact(_,.int i t)
 | .str y,r=>by
  obtain⟨t,rfl⟩:=r;exact(_,.str y t)
 | .lst (a:=a) h q,r=>by
  cases (show u=Value.ref a from r);obtain⟨k,f,p,_⟩:=I.list h;obtain⟨j,g⟩:=lg.reads I q f;obtain⟨o,n,e,c,_,d⟩:=p;exact(_,.list e c d (by simpa using g))
 | .tup (a:=a) h q,r=>by
  cases (show u=Value.ref a from r);obtain⟨k,f,p,_⟩:=I.tuple h;obtain⟨j,g⟩:=lg.reads I q f;obtain⟨o,e,c,n,d⟩:=p;exact(_,.tuple e c d (by simpa using g))
theorem lg.reads(I:Inv X π σ H s){xs:List V}{ds:List PyData}{a:List Value}:lg X.K H xs ds->Vals xs a -> ∃b,ReadsAll s.heap a ds b
 | .nil,r=>by
  cases r;exact(_,.nil)
 | .cons h q,r=>by
  cases r with
  | cons f e =>
   obtain⟨b,d⟩:=vM.reads I h f;obtain⟨g,c⟩:=lg.reads I q e;exact(_,.cons d c)
end
end
section
end
end L2
namespace Tw
theorem Hi{lo:Int}{n:Nat}{b:L2.St}{tt:TT}(f:Nat->Int)(k:n<sizeLine)
  (d:∀(z:Int) (H':Hp) (Q:Bool->Hp->Prop),Q true H'->tt (some (.int z)::b) H' Q)(j:∀(i:Nat) (H':Hp) (Q:VK),i<n->aO H H'->Q (.int (f i)) H'->ta (some (.int (lo+i))::b) H' Q)
  (q:∀D,H D=none->B D (upd H D (.lst (((adU n).map f).map V.int)))):j7 (Vi lo n) b tt ta B H:=by
 intro D g;exists λi m c h=>m=n - i/\i<=n/\c=((adU i).map f).map V.int/\h=upd H D (.lst c),(_,rfl,aaK _,rfl,rfl);rintro i m c h ⟨rfl,l,rfl,rfl⟩;by_cases a:i<n
 ·refine .inr (a,λv o y=>?_);obtain⟨rfl,rfl⟩:=y;refine d _ _ _ ?_;rw[if_pos rfl];refine j i _ _ a (az g _) (au,?_,n - (i+1),by lia,rfl,a,?_,?_)
  ·rw[aaa,aaa,afT];lia
  ·rw[af1,aal,aal];rfl
  ·rw[oH]
 ·have e:i=n:=by lia
  subst e;exact .inl (aac _,q D g)
theorem QG{a:Addr}{o:HO}(h:H a=some o):upd H a o=H:=funext λb=>by
 by_cases e:b=a
 ·rw[e,au,h]
 ·rw[aH e]
theorem GX{c A:Prop}[Decidable c]{D:Ends}{σ:St}(R:St->Hp->Prop)(b:¬c->R σ H)(h:∀a H',R a H'->D.nx a H')(d:c->(∀a H',R a H'->D.nx a H')->A):if c then A else Li D σ H:=by
 by_cases q:c
 ·rw[if_pos q];exact d q h
 ·rw[if_neg q];exact h _ _ (b q)
theorem Gb{t:TA}{i:Nat}{k:Int}{xs:List V}{σ:St}{Q:VK}(ht:∀c:List V->Hp->Prop,c xs H->t σ H c)(e:σ[i]?=some (some (.int k)))(f:k<=100000)(d:xs.length<=2)(g : -100000<=k)
  (q:∀p H',H p=none->aO H H'->H' p=some (.lst (aaB k.toNat xs).flatten)->Q (.ref p) H'):WQ RC (Ro t) (Py i) σ H Q:=by
 refine ht _ (by rw[sizeLine_eq];lia,λp b=>(_,e,p,k,xs,rfl,rfl,au,by lia,by lia,?_,λr a=>q r _ ((az b _).free a) ((az b _).trans (az a _)) au));rw[sizeLine_eq];have:k.toNat<=100000:=by lia
 have:=aiI d this;lia
end Tw
namespace L2
open PySem.Spec PyProof.Rows PySem.W
section
end
end L2
namespace Tw
theorem ug{a U A:Prop}[Decidable a]{D:Ends}{σ:St}(N:D.nx σ H)(b:a->D.nx σ H->U):if a then U else (if false=true then A else Li D σ H):=by
 by_cases q:a
 ·rw[if_pos q];exact b q N
 ·rw[if_neg q];exact dN N
end Tw
namespace L2
open PySem.Spec PyProof.Rows
theorem bB.ex{P:Program}{w:World}{a:Addr}{o:HO}(x:bB P w H h' a o):∃b,h'.get? a=some b:=by
 induction o with
 | lst l=>obtain⟨z,k,n,r,e⟩:=x;exact(_,e)
 | tup l=>obtain⟨z,k,r,b,e,c⟩:=x;exact(_,e)
 | dK j=>obtain⟨z,y,q,r,b,g,i,e,c⟩:=x;exact(_,e)
 | dT j=>obtain⟨z,y,l,r,b,g,i,e,c⟩:=x;exact(_,e)
 | set S n=>obtain⟨b,g,i,t,e,c⟩:=x;exact(_,e)
 | ins C I m=>obtain⟨d,z,B,e,_⟩:=x;exact(_,e)
 | own y=>exact x
 | xd m=>obtain⟨D,⟨A,g,i,e,c⟩,r⟩:=x;exact(_,e)
 | Xj E G=>obtain⟨t,u,v,e⟩:=x;exact(_,e)
 | Ua b u F=>exact(_,x.1)
 | Tf s=>exact(_,x)
 | met f y=>exact(_,x)
 | ext p=>exact x.2.1
structure Uw(B:Heap)(fs:List Addr)(H H':Hp)(h:Heap):Prop where
 old:∀b o,h.get? b=some o->b∉fs -> ∃o',B.get? b=some o'/\(H b=none->o'=o)
 Vw:∀b u,H' b=some u -> ∃o,B.get? b=some o
def VB(P:Program)(w:World):Uh:=λa H s E e b=>∃(d C t:Addr) (B:Heap) (c:Hp),e=.ref d/\b.os=s.os/\AllBare b.gens/\Un (frs a) [] H c s.heap b.heap/\Ti P w c b.heap /\
  Heap.FlyingW B a d (.ref C) (.ref t) b.heap/\Uw B (frs a) H c s.heap/\E (.ref C) none c
section
variable{P:Program}{cd:Value}{s0:Shared}{H0:Hp}{E:XK}
abbrev X1(P:Program)(w:World)(K:PySem.W.Frag)(mg:Str->Option Value)(base:Heap)(N:List Str)(qual:Str)(scope:Scope)(f:Addr)(cd:Value)(A:Around)(outer:List Env)(s0:Shared)(H0:Hp)(E:XK):Cx:=
 gZ (VB P w) P w K mg base N qual scope f cd A outer s0 H0 E
theorem young{b:Addr}{o:Obj}(q:s0.heap.get? b=some o)(c:b∉frs outer):b∉frs (envOfC qual scope s0.heap.objs.size f cd::outer):=λz=>by
 have a:b∈s0.heap.objs.size::frs outer:=z;rcases aaH.mp a with e|e
 ·exact absurd (Heap.lt_size q) (by rw[e];exact adK _)
 ·exact c e
theorem raised{σ:St}{s:Shared}{C:Addr}(I:Inv (X1 P w K mg base N qual scope f cd A outer s0 H0 E) π σ H s)(m:Heap.MadeExcOf s.heap h' a (.ref C) r)(q:E (.ref C) none H):
  (X1 P w K mg base N qual scope f cd A outer s0 H0 E).xe (.ref a) { s with heap:=h' }:=by
 have M:s.heap.FunFrames base (envOfC qual scope s0.heap.objs.size f cd::outer):=I.stack;have G:∀l∈(envOfC qual scope s0.heap.objs.size f cd::outer),∀b,l.frame=some b->b∈frs (envOfC qual scope s0.heap.objs.size f cd::outer):=λl R b g=>ahz.mpr (l,R,g);have U:Un (frs outer) [] H0 H s0.heap s.heap:=I.base;have j:∀b u,H b=some u->b∉frs (envOfC qual scope s0.heap.objs.size f cd::outer):=λb u e z=>by
  have:=I.stkFree b z;rw[this]at e;cases e
 have i:∀b o,s.heap.get? b=some o->b∉frs (envOfC qual scope s0.heap.objs.size f cd::outer)->(PySem.W.hideAll s.heap (frs (envOfC qual scope s0.heap.objs.size f cd::outer))).get? b=some o:=λb o e n=>PySem.W.hideAll_get _ e n;show wpAny _ _ (leaving _ _) _ _ _;refine wpAny_leaves_madeW (base:=PySem.W.hideAll s.heap (frs (envOfC qual scope s0.heap.objs.size f cd::outer))) I.ok.frames rfl (λb o e=>PySem.W.of_hideAll _ e) (PySem.W.funFrames_hide M G) m λS t J V T O=>?_;have k:=J.1;have L:∀b o,s.heap.get? b=some o->b∈frs outer -> ∃y,S.get? b=some { o with slots:=y }:=λb o e g=>by
  obtain⟨_,X,x,Q⟩:=M.mem (b:=b) (aaL _ g);rw[e]at x;cases x;exact O b o (m.keeps _ _ e) Q
 refine(a,C,t,_,H,rfl,I.os,I.bare,(λb o e n g v=>?_,λb o e n g v=>?_,U.free,λb o e v=>?_,U.tups,U.frzs,U.tbls),λb u e=>?_,J,(λb o e g=>?_,λb u e=>?_),q)
 ·exact k b o (i b o (U.keep b o e n g v) (young e g))
 ·obtain⟨y,h⟩:=U.slot b o e n g v;obtain⟨F,D⟩:=L b _ h g;exact(F,D)
 ·obtain⟨p,h⟩:=U.there b o e v;by_cases g:b∈frs outer
  ·obtain⟨y,D⟩:=L b _ h g;exact(_,D)
  ·exact(p,k b p (i b p h (young e g)))
 ·refine(I.hok b u e).stay (λc o B h=>k c o (i c o h ?_)) (λ_ d=>d) λ_ _ d=>d;rcases B with rfl|B
  ·exact j _ _ e
  ·exact j _ _ B
 ·obtain⟨p,h⟩:=U.there b o e (by simp);refine(p,i b p h (young e g),λn=>?_);have:=U.keep b o e n g (by simp);rw[h]at this;exact aap this
 ·obtain⟨o,h⟩:=(I.hok b u e).ex;exact(o,i b o h (j b u e))
theorem LR:qQ (VB P w) (X1 P w K mg base N qual scope f cd A outer s0 H0 E) E:=by
 intro π σ H s e S I h;obtain⟨ea,C,t,B,H',rfl,V,x,m,L,F,j,q⟩:=h;have U:Un (frs outer) [] H0 H s0.heap s.heap:=I.base;show wpAny _ _ (leaving _ _) _ _ _;refine wpAny_leaves_onW (base:=B) I.ok.frames rfl F λZ O R=>?_;have k:=O.1;have Q:∀b o,S.heap.get? b=some o->b∈frs outer -> ∃y,Z.get? b=some { o with slots:=y }:=λb o e d=>by
  obtain⟨_,p,v,W⟩:=F.2.2.1.mem (b:=b) (aaL _ d);rw[e]at v;cases v;exact R b o e W
 refine(ea,C,t,B,H',rfl,V.trans I.os,x,(λb o e n d g=>?_,λb o e n d g=>?_,λb o e n g=>?_,λb o e g=>?_,λb M e=>m.tups b M (U.tups b M e),λb o u e=>m.frzs b o u (U.frzs b o u e),λb T e=>?_),λb u e=>?_,O,(λb o e d=>?_,j.Vw),q)
 ·obtain⟨p,a,z⟩:=j.old b o (U.keep b o e n d g) (young e d);rw[z (U.free b o e n g)]at a;exact k b o a
 ·obtain⟨y,i⟩:=U.slot b o e n d g;obtain⟨a0,a⟩:=m.slot b _ i (U.free b o e n g) (aaL _ d) g;obtain⟨J,G⟩:=Q b _ a d;exact(J,G)
 ·obtain⟨l,i⟩:=U.there b o e g;exact m.free b l i (U.free b o e n g) g
 ·obtain⟨l,i⟩:=U.there b o e g;by_cases d:b∈frs outer
  ·obtain⟨o2,a⟩:=m.there b l i g;obtain⟨y,G⟩:=Q b _ a d;exact(_,G)
  ·obtain⟨p,a,_⟩:=j.old b l i (young e d);exact(p,k b p a)
 ·obtain⟨Y,i⟩:=U.tbls b T e;obtain⟨X,a⟩:=m.tbls b _ i;exact(Y++X,by rw[a,aic])
 ·refine(L b u e).stay (λc o D i=>?_) (λ_ r=>r) λ_ _ r=>r;have ht:∃o,B.get? c=some o:=by
   rcases D with rfl|D
   ·exact j.Vw _ _ e
   ·exact j.Vw _ _ D
  obtain⟨l,a⟩:=ht;have:=F.1 c l a;rw[i]at this;cases this;exact k c o a
 ·obtain⟨l,i⟩:=U.there b o e (by simp);obtain⟨p,a,z⟩:=j.old b l i (young e d);refine(p,a,λn=>?_);have:=U.keep b o e n d (by simp);rw[i]at this;rw[z (U.free b o e n (by simp))];exact aap this
end
section
variable{P:Program}
theorem T7.ok1{x :Str}{st:Stmt}{f:Addr}{fd:FuncData}{N ps:List Str}{k:Nat}(F:T7 K x qual st f fd)(S:aC N ps (δ st))(e:∀c H Q E,sp c H Q E->c.length=ps.length)
  (d:∀(b:Value) (A:Around) (a:List Env) (s:Shared) (H:Hp) (c:List V) (Q:VK) (E:XK),dX k (A.deeper (envOfC qual (δ st) s.heap.objs.size f b))->sp c H Q E ->
   ∃t,Ub (X1 P w K mg base N qual (δ st) f b A a s H E) (μ st) t/\t { nx:=λ_ H'=>Q .non H',rt:=Q } (start N c) H):aV P w K mg base (VB P w) (k+1) f fd ps sp:=by
 obtain⟨p,o,kV,m,n,r,b,q,l,rfl,i,h⟩:=F.ex;exact OD i h S e λA a s H c Q E j g=>d b A a s H c Q E j g
end
abbrev Xv:List Value:=[.type "ValueError",.type "Exception",.type "BaseException",.type "object"]
structure Exc(K:PySem.W.Frag)(mg:Str->Option Value)(x:Str)(C:Addr):Prop where
 m:mg x=some (.ref C)
 q:PySem.W.excIn K C Xv "ValueError.__new__" = true
theorem NK{C:Addr}(X:K.In h')(q:PySem.W.excIn K C Xv "ValueError.__new__" = true):
  ∃bm N nm d bs hdct sn sub ab col dd k0 k1 k2 k3 k5 mN,h'.get? C=some (excClassObj nm d C N bs bm hdct sn sub ab col dd k0 k1 k2 k3 k5 "ValueError.__new__")/\h'.Ns N mN/\mN "__init__" = none/\OwnTail h' Xv bm:=by
 unfold PySem.W.excIn at q;split at q
 ·rename_i dd m f k;split at q
  ·rename_i r bm k0 k1 k2 k3 n k5 i g;simp only[agV,beq_iff_eq,ag8]at q;obtain⟨⟨⟨⟨⟨rfl,rfl⟩,a⟩,ht⟩,b⟩,c⟩:=q;obtain⟨nm,bs,o,j,d,hd,sn,sub,ab,col,p⟩:=m;dsimp only at i a b c;subst i a
   have e:f=#[k0,k1,k2,k3,some (.builtin "ValueError.__new__"),k5]:=by
    obtain⟨l⟩:=f;simp only at g;rw[g]
   subst e;exact(bm,j,nm,d,bs,hd,sn,sub,ab,col,dd,k0,k1,k2,k3,k5,_,X _ _ k,.of_isNs (PySem.W.isNs_of_in X b),PySem.W.nsMap_none_of_in X b c,PySem.W.tail_of_in X ht)
  ·cases q
 ·cases q
section
variable{P:Program}{cd:Value}{s0:Shared}{H0:Hp}{E:XK}
def Iw(C:Addr)(E:XK):List V->Hp->Prop:=λa b=>a.length<=sizeLine/\E (.ref C) none b
def QC(C:Addr)(E:XK)(b:TA):TS:=λ_ a H=>b a H (Iw C E)
theorem KR{x:Str}{C:Addr}{a:Expr}{pos:Pos}(e:Exc K mg x C)(R:Gl (X1 P w K mg base N qual scope f cd A outer s0 H0 E) x)(S:PA (X1 P w K mg base N qual scope f cd A outer s0 H0 E) [a] t)
  (i:(x == ("__debug__" : Str))=false:=by decide)
  (k:starEach [a] (X1 P w K mg base N qual scope f cd A outer s0 H0 E).env=[(pq false (eval a (X1 P w K mg base N qual scope f cd A outer s0 H0 E).env))]:=by rfl):
  PS (X1 P w K mg base N qual scope f cd A outer s0 H0 E) (.Raise (some (.Call (.Name x p) [a] [] apos)) none pos) (QC C E t):=by
 intro o s n H D I h;obtain⟨Y,N',B,v,X,b,r,d,Z,j,W,Q,O,M,L,J,G,V,U,g,T⟩:=NK I.mod.WF e.q;refine wpAny_Raise_call_subU (C:=C) (nm:=B) (q:=v) (N:=N') (bs:=X) (bm:=Y) (hdct:=b) (sn:=r) (sub:=d) (ab:=Z) (col:=j) (dd:=W) (k0:=Q) (k1:=O) (k2:=M) (k3:=L) (k5:=J)
  PySem.F.excBase_ValueError PySem.F.excBase_ValueError.hasB PySem.F.excBase_ValueError (mN:=G) (T.hasType PySem.F.excBase_ValueError.hasBase) (I.ok.hd rfl) (by rw[k];rfl) g (yX I R e.m (rfl,?_) i)
 have l:=S apos o s n H _ I h;rw[k]at l ⊢;refine Calls.evalArgs_plain (S5 l λus s2 ⟨vs,H2,c,u,z,y⟩=>(rfl,?_,c.bk _ _ V,U.keeps c.bk,T.keeps c.bk,λh' ea m=>raised c m y));rw[<-u.length];exact z
end
structure Sg(K:PySem.W.Frag)(C:Addr):Prop where
 dct:PySem.W.hasDictIn K C=true
 ga:PySem.W.findIn K (.ref C) "__getattribute__" = some (some (.builtin "BaseException.__getattribute__"))
 nga:PySem.W.findIn K (.ref C) "__getattr__" = some none
 cl:PySem.W.findIn K (.ref C) "__class__" = some (some (.builtin "object.__class__"))
 gt:PySem.W.specialIn K (.builtin "object.__class__") "__get__" = some (some (.builtin "getset_descriptor.__get__"))
 tk:PySem.W.takesIn K (.builtin "object.__class__")=some true
 mo:PySem.W.mroIn K C (.type "object")=some true
 mb:PySem.W.mroIn K C (.type "BaseException")=some true
section
variable{ea:Addr}
end
section
variable{x:Addr}
end
open PySem.W Builtin Builtin.ObjectAttr Builtin.Getset_descriptor
section
variable{x:Addr}
end
section
end
theorem O5{P:Program}{w:World}{X:Cx}:qQ (VB P w) X (λ_ _ _=>False):=λ_ _ _ _ _ _ _ h=>by
 obtain⟨_,_,_,_,_,_,_,_,_,_,_,_,z⟩:=h;exact z.elim
section
variable{pins':List (Addr×Obj)}{E:XK}
end
inductive Hy(r':R2)(r'':R2)(tc:TE)(td:TE)(σ:St)(Q:VK)(y:V)(z:V)(H3:Hp):Prop
 | mk (k:_) (_:z=.bl k) (_:(if k=true then tc σ H3 λw' H4=>r' y w' H4 λz2 H5=>∃k2,z2=.bl k2/\(if k2=true then td σ H5 λw2 H6=>r'' w' w2 H6 Q else Q (.bl false) H5)else Q (.bl false) H3))
def Ft(r:R2)(d:R2)(a:R2)(c:TE)(b:TE)(σ:St)(Q:VK)(x:V):VK:=λy e=>r x y e (Hy d a c b σ Q y)
def Eb(r:R2)(e:R2)(a:R2)(d:TE)(c:TE)(b:TE)(σ:St)(Q:VK):VK:=λx f=>d σ f (Ft r e a c b σ Q x)
def Mu(r g a:R2)(f e d c:TE):TE:=λ b H Q=>f b H (Eb r g a e d c b Q)
theorem Hn{X:Cx}{a b c :Expr}{B:TE}{pos:Pos}{p l g:CmpOp}{r E m:R2}(ho:Tn X (compareOp p) r)(t:Tn X (compareOp l) E)(n:Tn X (compareOp g) m)(ha:PE X a ta)(hb:PE X b tb)(hc:PE X c te)(hd:PE X e B)
  (hm:lastMarks [p,l,g] [b,c,e]=false:=by with_unfolding_all rfl):PT X (.Compare a [p,l,g] [b,c,e] pos) (Ly (Mu r E m ta tb te B)):=by
 intro j s i H Q I h;refine isTrue_chain (S5 (ha j s i H _ I h) λv V ⟨x,H1,I1,r1,q1⟩=>test_link (S5 (hb j V i H1 _ I1 q1) λu U ⟨y,H2,I2,D,q2⟩ =>
  S5 (ho j U i H2 x y v u _ I2 r1 D q2) λe T ⟨z,M,K,r3,k,f,G⟩=>?_)) hm
 subst f;cases r3;refine wpAny_truthy_bool ?_;cases k with
 | false =>
  obtain⟨k',q,o⟩:=G;cases q;exact ite_ff (M,K,o)
 | true =>
  refine ite_tt (test_link (S5 (hc j T i M _ K G) λA S ⟨w,H4,I4,C,q4⟩=>S5 (t j S i H4 y w u A _ I4 D C q4) λd' R ⟨z2,L,J,Z,k2,e2,F⟩=>?_));subst e2;cases Z;refine wpAny_truthy_bool ?_;cases k2 with
  | false =>
   obtain⟨k',q,o⟩:=F;cases q;exact ite_ff (L,J,o)
  | true =>
   refine ite_tt (test_last (S5 (hd j R i L _ J F) λO P ⟨N,H6,I6,Y,q6⟩=>S5 (n j P i H6 w N A O _ I6 C Y q6) λd2 s7 ⟨z4,H7,I7,W,k3,e3,q7⟩=>?_));subst e3;cases W;exact wpAny_truthy_bool (H7,I7,q7)
def aM(a:Addr)(o:Obj):HO:=.ext λh=>h.get? a=some o
theorem eV{P:Program}{w:World}{a:Addr}{o:Obj}(e:h'.get? a=some o):bB P w H h' a (aM a o):=(e,(o,e),λ_ _ p k=>k o p)
theorem cV{P:Program}{w:World}{a:Addr}{o:Obj}(b:Ti P w H h')(e:H a=some (aM a o)):h'.get? a=some o:=(b a _ e).1
def hide(H:Hp)(cs:List Addr):Hp:=λb=>if b∈cs then none else H b
def over(H:Hp)(cs:List Addr)(H':Hp):Hp:=λb=>if b∈cs then H b else H' b
theorem mW{cs:List Addr}{b:Addr}(h:b∈cs):hide H cs b=none:=if_pos h
theorem bx{cs:List Addr}{b:Addr}(h:b∉cs):hide H cs b=H b:=if_neg h
theorem uc{H':Hp}{cs:List Addr}{b:Addr}(h:b∈cs):over H cs H' b=H b:=if_pos h
theorem dG{H':Hp}{cs:List Addr}{b:Addr}(h:b∉cs):over H cs H' b=H' b:=if_neg h
theorem mJ(H:Hp)(cs:List Addr):over H cs (hide H cs)=H:=by
 funext b;by_cases h:b∈cs
 ·rw[uc h]
 ·rw[dG h,bx h]
theorem uZ{H':Hp}{cs:List Addr}{a:Addr}{o:HO}(h:a∉cs):over H cs (upd H' a o)=upd (over H cs H') a o:=by
 funext b;by_cases c:b∈cs
 ·have:b≠a:=λe=>h (e ▸ c);rw[uc c,aH this,uc c]
 ·rw[dG c];by_cases e:b=a
  ·subst e;rw[au,au]
  ·rw[aH e,aH e,dG c]
section
variable{P:Program}{cs:List Addr}
theorem Gn(f:Ti P w H h)(g:∀a∈cs,∃o,H a=some (aM a o)):Ti P w (hide H cs) h:=λb u e=>by
 have i:b∉cs:=λz=>by rw[mW z]at e;cases e
 rw[bx i]at e;refine(f b u e).stay (λ_ _ _ q=>q) (λc q=>?_) λc j q=>?_
 ·rw[bx]
  ·exact q
  ·intro z;obtain⟨o,d⟩:=g c z;rw[q]at d;cases d
 ·rw[bx]
  ·exact q
  ·intro z;obtain⟨o,d⟩:=g c z;rw[q]at d;cases d
theorem GJ(s:Ti P w H h)(m:Ti P w H' h')(p:∀a∈cs,∃o,H a=some (aM a o))(y:∀b∈j,H b=none)(u:Un j [] (hide H cs) H' h h'):
  Ti P w (over H cs H') h'/\Un j [] H (over H cs H') h h':=by
 have l:∀a∈cs,∃o,H a=some (aM a o)/\h.get? a=some o:=λa r=>by
  obtain⟨o,e⟩:=p a r;exact(o,e,cV s e)
 have k:∀a∈cs,H' a=none:=λa r=>by
  obtain⟨o,_,e⟩:=l a r;exact u.free a o e (mW r) (by simp)
 have i:∀b,H b=none->b∉cs:=λb n z=>by
  obtain⟨o,e,_⟩:=l b z;rw[n]at e;cases e
 refine(λb v e=>?_,λb o e n d f=>?_,λb o e n d f=>?_,λb o e n f=>?_,λb o e f=>u.there b o e f,λb t e=>?_,λb o v e=>?_,λb x e=>?_)
 ·by_cases d:b∈cs
  ·obtain⟨o,g,A⟩:=l b d;rw[uc d,g]at e;cases e;exact eV (u.keep b o A (mW d) (λz=>by rw[y b z]at g;cases g) (by simp))
  ·rw[dG d]at e;refine(m b v e).stay (λ_ _ _ q=>q) (λc q=>?_) λc t q=>?_
   ·rw[dG]
    ·exact q
    ·intro z;rw[k c z]at q;cases q
   ·rw[dG]
    ·exact q
    ·intro z;rw[k c z]at q;cases q
 ·exact u.keep b o e (by rw[bx (i b n)];exact n) d f
 ·exact u.slot b o e (by rw[bx (i b n)];exact n) d f
 ·rw[dG (i b n)];exact u.free b o e (by rw[bx (i b n)];exact n) f
 ·have d:b∉cs:=λz=>by
   obtain⟨o,g⟩:=p b z;rw[e]at g;cases g
  rw[dG d];exact u.tups b t (by rw[bx d];exact e)
 ·have d:b∉cs:=λz=>by
   obtain⟨o,g⟩:=p b z;rw[e]at g;cases g
  rw[dG d];exact u.frzs b o v (by rw[bx d];exact e)
 ·have d:b∉cs:=λz=>by
   obtain⟨o,g⟩:=p b z;rw[e]at g;cases g
  rw[dG d];exact u.tbls b x (by rw[bx d];exact e)
end
structure vD where
 name:Str
 qual:Str
 params:Arguments
 body:List Stmt
 scope:Scope
 ps:List Str
 xs:List Str
structure iH(H:Hp)(f:Addr)(c:vD)(cs:List Addr)(Tc:List V):Prop where
 ex:∃(cd:Addr) (doc pm ctv:Value) (oc:Obj) (vs:Array Value) (t:Tok),H f=some (aM f (fnMade c.name c.qual c.params c.body c.scope (c.xs.zip cs) doc pm cd ctv))/\H cd=some (aM cd oc)/\oc.data=.fields vs/\vs[1]?=some (.str c.qual t)
 cells:∀(i:Nat) (a:Addr),cs[i]?=some a -> ∃(co:Obj) (v:V) (u:Value),Tc[i]?=some v/\H a=some (aM a co)/\co.data=.cell (some u)/\RelV v u
 nd:cs.Nodup
 len:cs.length=c.xs.length
 lenV:Tc.length=c.xs.length
theorem iH.same{H':Hp}{f:Addr}{c:vD}{cs:List Addr}{Tc:List V}(h:iH H f c cs Tc)(s:∀b o,H b=some (aM b o)->H' b=some (aM b o)):iH H' f c cs Tc:=by
 obtain⟨⟨C,g,l,j,m,k,t,x,w,r,q⟩,p,n,d,lenV⟩:=h;refine((C,g,l,j,m,k,t,s _ _ x,s _ _ w,r,q),λi a e=>?_,n,d,lenV);obtain⟨B,v,u,A,z,y⟩:=p i a e;exact(B,v,u,A,s _ _ z,y)
structure v7(N:List Str)(c:vD):Prop where
 kind:c.scope.kind=.function
 co:c.scope.isCoroutine=false
 gen:c.scope.isGenerator=false
 ρ:∀x∈c.scope.names,x.2 ≠ .cell
 pre:N.take (c.ps.length+c.xs.length)=c.ps++c.xs
 nd:N.Nodup
 Vn:∀n∈c.ps,c.scope.names.lookup n=some .local
 fr:∀x∈c.scope.names,x.2=.free->x.1∈c.xs
 Ys:∀n∈c.xs,c.scope.names.lookup n≠some .local
def sU(P:Program)(w:World)(K:PySem.W.Frag)(mg:Str->Option Value)(base:Heap)(N:List Str)(b:Str)(a:Scope)(f:Addr)(e:Value)(d:List (Str×Addr))(A:Around)(c:List Env)(s:Shared)(H:Hp):Cx where
 prog:=P
 w:=w
 K:=K
 mg:=mg
 base:=base
 A:=A.deeper (envX b a s.heap.objs.size f e d)
 N:=N
 s₀:=s
 H₀:=H
 env:=envX b a s.heap.objs.size f e d
 outer:=c
 stack:=envX b a s.heap.objs.size f e d::c
 ex:=[]
 calm:=true
 fn:=λ_=>false
 pn:=[]
 xe:=λ_ _=>False
theorem cP:∀{xs:List Str}{cs:List Addr}{x:Str}{c:Addr},(xs.zip cs).lookup x=some c -> ∃i:Nat,xs[i]?=some x/\cs[i]?=some c
 | [],_,_,_,h=>by simp at h
 | _::_,[],_,_,h=>by simp at h
 | y::xs,d::cs,x,c,h=>by
  rw[agH,ahg]at h;cases a:x == y with
  | true =>
   rw[a]at h;cases h;exact(0,by rw[eq_of_beq a];rfl,rfl)
  | false =>
   rw[a]at h;obtain⟨i,e,b⟩:=cP h;exact(i+1,e,b)
theorem yH:∀{xs:List Str}{cs:List Addr}{x:Str},cs.length=xs.length->x∈xs -> ∃c,(xs.zip cs).lookup x=some c
 | [],_,_,_,h=>by simp at h
 | _::_,[],_,l,_=>by simp at l
 | y::xs,d::cs,x,l,h=>by
  rw[agH,ahg];cases a:x == y with
  | true=>exact(d,rfl)
  | false =>
   rcases aaH.mp h with e|e
   ·rw[e]at a;simp at a
   ·exact yH (by simpa using l) e
theorem Dz:∀{xs:List Str}{cs:List Addr}{i:Nat}{x:Str}{c:Addr},xs.Nodup->xs[i]?=some x->cs[i]?=some c->(xs.zip cs).lookup x=some c
 | [],_,_,_,_,_,h,_=>by simp at h
 | _::_,[],_,_,_,_,_,h=>by simp at h
 | y::xs,d::cs,0,x,c,_,e,b=>by
  simp at e b;subst e b;simp
 | y::xs,d::cs,i+1,x,c,g,e,b=>by
  have a:xs[i]?=some x:=by simpa using e
  have f:(x == y)=false:=by
   cases j:x == y with
   | false=>rfl
   | true =>
    rw[eq_of_beq j]at a;exact absurd (aag a) (aga.mp g).1
  rw[agH,ahg,f];exact Dz (aga.mp g).2 a (by simpa using b)
theorem lookup_mem:∀{l:List (Str×Value)} {y:Str}{u:Value},(l.map (·.1)).Nodup->(pq y u)∈l->l.lookup y=some u
 | [],_,_,_,h=>by simp at h
 | (z,v)::l,y,u,a,h=>by
  rw[aaA]at a;rw[ahg];rcases aaH.mp h with e|e
  ·cases e;simp
  ·cases b:y == z with
   | true =>
    rw[eq_of_beq b]at e;exact absurd (abl.mpr (_,e,rfl)) (aga.mp a).1
   | false=>exact lookup_mem (aga.mp a).2 e
theorem rM:∀(ps:List Str) (a:List Value),((ps.zip a).map (·.1)).Sublist ps
 | [],_=>by simp
 | _::_,[]=>by simp
 | p::ps,u::a=>by
  rw[agH,aaA];exact(rM ps a).cons₂ _
theorem Gj{ps:List Str}{i:Nat}{y:Str}{u:Value}(a:ps.Nodup)(c:ps[i]?=some y)(b:r[i]?=some u):(ps.zip r).reverse.lookup y=some u:=by
 refine lookup_mem ?_ ?_
 ·rw[aiy];refine agM.mpr (List.Pairwise.imp (λh=>ae2 h) (show ((ps.zip r).map (·.1)).Nodup from a.sublist (rM ps r)))
 ·rw[agW];exact aag (i:=i) (by rw[List.getElem?_zip_eq_some];exact(c,b))
section
variable{P:Program}{c:vD}{cs:List Addr}{Tc vs:List V}{us:List Value}{k:Nat}{Q:VK}{E:XK}
theorem Nu(S:v7 N c)(hr:dX (k+1) A)(d:EY P w K mg base A outer s H)(ca:iH H f c cs Tc)(hb:∀(cl:List (Str×Addr)) (F pm l G:Value),BindsTo s (fnX c.name c.qual c.params c.body c.scope cl .none .none F pm none l G) (us,[]) (c.ps.zip us))(r:Vals vs us)(hl:vs.length=c.ps.length)
  (Z:∀l:Addr,dX k (A.deeper (envX c.qual c.scope s.heap.objs.size f (.ref l) (c.xs.zip cs))) -> ∃t,Ub (sU P w K mg base N c.qual c.scope f (.ref l) (c.xs.zip cs) A outer s (hide H cs)) c.body t/\t { nx:=λ_ H'=>Q .non (over H cs H'),rt:=λv H'=>Q v (over H cs H') } (start N (vs++Tc)) (hide H cs)):
  codeAny (model P w) A (.call (.ref f) (us,[])) (CR S6 outer P w H s Q E) s:=by
 obtain⟨⟨l,F,pm,G,oc,ws,tk,h1,h2,h3,h4⟩,hc,nd,a1,lenV⟩:=ca;have hx:∀a∈cs,∃o,H a=some (aM a o):=λa R=>by
  obtain⟨i,D⟩:=abk R;obtain⟨X,v,u,_,e,_⟩:=hc i a D;exact(X,e)
 have a0:s.heap.NoLimit:=d.mod.nolimit.keeps λb o e=>(d.bs b o e).1;have Wj:c.ps.Nodup:=by
  have:c.ps.Sublist N:=by
   have h:(c.ps++c.xs).Sublist N:=by rw[<-S.pre];exact agv _ _
   exact(ahF _ _).trans h
  exact S.nd.sublist this
 have Yt:c.xs.Nodup:=by
  have:c.xs.Sublist N:=by
   have h:(c.ps++c.xs).Sublist N:=by rw[<-S.pre];exact agv _ _
   exact(ahD _ _).trans h
  exact S.nd.sublist this
 have a5:c.ps.length+c.xs.length<=N.length:=by
  have:=congrArg af7 S.pre;rw[aaI,aaf]at this;lia
 refine codeAny_call_def (fd:=fnX c.name c.qual c.params c.body c.scope (c.xs.zip cs) .none .none F pm none (.ref l) G) (binds:=c.ps.zip us) hr.depth (cV d.hok h1) rfl a0 (l,oc,ws,tk,rfl,cV d.hok h2,h3,h4) rfl (hb _ _ _ _ _) S.ρ (λy m=>S.Vn _ (agK m).1) (λh0 a2 hk=>?_) S.co S.gen S.kind;obtain⟨t,ht,hq⟩:=Z l (hr.deeper _);have C:=Gn d.hok hx;have I:Inv (sU P w K mg base N c.qual c.scope f (.ref l) (c.xs.zip cs) A outer s (hide H cs)) [] (start N (vs++Tc)) (hide H cs) { s with heap:=h0,toks:=s.toks+(c.ps.zip us).length }:=by
  refine((d.mod,S.kind,rfl,rfl,aac _,λy z b h g=>?_,λy m=>?_,λy b h _=>absurd h aar,λ_=>hr.hd,Around.frames_deeper d.frames,.inr (rfl,rfl),λb z=>absurd (show b∈([]:List Addr)from z) (by simp),λb o e=>((d.bs b o e).1,?_),d.U4,λb _ _ z=>absurd (show b∈([]:List Addr)from z) (by simp),λb z=>absurd (show b∈([]:List Addr)from z) (by simp),d.funs,λb a4=>?_),
   rfl,d.bare,Un.kept hk,(_,a2,λi y v h g h7=>?_),λy b h=>?_,C.fresh (aac _),λy b h=>?_,λp x=>absurd (show p∈([]:List (Addr×Obj))from x) (by simp),C.kept hk,?_)
  ·obtain⟨i,i1,M⟩:=cP h;obtain⟨j,j1,j2⟩:=cP g;have:=(ail (aab.mp M).1 nd).mp (M.trans j2.symm);subst this;exact aap (i1.symm.trans j1)
  ·have m:c.scope.names.lookup y=some .cell\/c.scope.names.lookup y=some .free:=m;rcases m with m|m
   ·exact absurd rfl (S.ρ _ (PySem.mem_of_lookup m))
   ·exact yH a1 (S.fr _ (PySem.mem_of_lookup m) rfl)
  ·have n:=(d.bs b o e).2;show hide H cs b=none;rw[bx]
   ·exact n
   ·intro z;obtain⟨o',W⟩:=hx b z;rw[n]at W;cases W
  ·have n:=d.Vh b a4;show hide H cs b=none;rw[bx]
   ·exact n
   ·intro z;obtain⟨o',W⟩:=hx b z;rw[n]at W;cases W
  ·have D:i<(vs++Tc).length:=by
    unfold start at g;by_cases D:i<(vs++Tc).length
    ·exact D
    ·rw[aaz (by simpa using D)]at g;rw[agh]at g;split at g <;> cases g
   have R:(vs++Tc)[i]?=some v:=by
    unfold start at g;rw[aaw (by simpa using D),aah]at g;cases e:(vs++Tc)[i]? with
    | none=>rw[e]at g;cases g
    | some a=>rw[e]at g;cases g;rfl
   rw[aaf]at D;have x:(c.ps++c.xs)[i]?=some y:=by
    rw[<-S.pre,afA (by lia)];exact h
   by_cases a3:i<vs.length
   ·rw[aaw a3]at R;rw[aaw (by lia)]at x;obtain⟨u,hu,U⟩:=r.get R;exact(u,U,.inl (S.Vn y (aag x),Gj Wj x hu))
   ·rw[aaz (by lia)]at R;rw[aaz (by lia),<-hl]at x;have hj:i - vs.length<cs.length:=by
     have:=(aab.mp x).1;lia
    obtain⟨b,WY⟩:∃b,cs[i - vs.length]?=some b:=(_,aad hj);obtain⟨X,v',u,q1,q2,q3,q4⟩:=hc _ b WY;rw[R]at q1;cases q1;have L:c.scope.names.lookup y=some .free:=by
     rcases h7 with q|q|q
     ·exact absurd q (S.Ys y (aag x))
     ·exact absurd rfl (S.ρ _ (PySem.mem_of_lookup q))
     ·exact q
    exact(u,q4,.inr (.inr L,b,Dz Yt x WY,X,hk _ _ (cV d.hok q2),q3))
  ·obtain⟨i,i1,M⟩:=cP h;obtain⟨X,v',u,q1,q2,q3,q4⟩:=hc _ b M;exact(_,X,hk _ _ (cV d.hok q2),q3)
  ·obtain⟨i,i1,M⟩:=cP h;exact mW (aag M)
  ·unfold start;show _=N.length;rw[aaf,aaa,abt,aaf];lia
 have Y:∀{T:Shared}{B:St}{H':Hp}{v:V}{u:Value},Inv (sU P w K mg base N c.qual c.scope f (.ref l) (c.xs.zip cs) A outer s (hide H cs)) [] B H' T->RelV v u->Q v (over H cs H')->CE outer P w H s Q u T:=λ{T B H' v u} J U q=>by
  obtain⟨k1,k2⟩:=GJ d.hok J.hok hx d.Vh J.base;exact(v,over H cs H',J.os,J.bare,k2,k1,U,q)
 refine wpAny_mono (ht [] _ (start N (vs++Tc)) (hide H cs) _ I hq) (λfl T O=>?_) λe T O=>False.elim O;cases fl with
 | ret u =>
  obtain⟨v,B,H',J,U,q⟩:=O;exact Y J U q
 | next =>
  obtain⟨B,H',J,q⟩:=O;exact Y (v:=V.non) (u:=Value.none) J rfl q
 | brk =>
  obtain⟨_,_,_,q⟩:=O;exact False.elim q
 | cont =>
  obtain⟨_,_,_,q⟩:=O;exact False.elim q
end
def fH(P:Program)(w:World)(K:PySem.W.Frag)(mg:Str->Option Value)(base:Heap)(k:Nat)(d:Addr->Sp):Prop:=
 ∀(f:Addr) (A:Around) (a:List Env) (s:Shared) (H:Hp) (c:List Value) (b:List V) (Q:VK),dX k A->EY P w K mg base A a s H->Vals b c->d f b H Q E0 ->
  codeAny (model P w) A (.call (.ref f) (c,[])) (CR S6 a P w H s Q E0) s
theorem fH.mono{P:Program}{w:World}{K:PySem.W.Frag}{mg:Str->Option Value}{base:Heap}{j k:Nat}{b:Addr->Sp}(F:fH P w K mg base j b)(h:j<=k):fH P w K mg base k b:=
 λf A a s H d c Q e=>F f A a s H d c Q (e.mono h)
inductive Qy(i:Nat)(sp:Addr->Sp)(t:TA)(σ:St)(H:Hp)(Q:VK):Prop
 | mk (f o fd:_) (_:σ[i]?=some (some (.ref f))) (_:H f=some (aM f o)) (_:o.data=.func fd) (_:t σ H λvs H1=>H1 f=some (aM f o)/\sp f vs H1 Q E0)
section
variable{k:Nat}{pos:Pos}{es:List Expr}{sp:Addr->Sp}
theorem dH(C:fH X.prog X.w X.K X.mg X.base k sp)(U:dX k X.A)(V:X.N[i]?=some x)(Y:PA X (e::es) t)(R:Xk X.env.scope x:=by first|exact agG rfl|exact ahs (agG rfl) | exact ahs (ahs rfl))
  (hd:(x == ("__debug__" : Str))=false:=by decide)(n:(x == ("__classdict__" : Str))=false:=by decide)
  (W:starEach (e::es) X.env=(pq false (eval e X.env))::starEach es X.env:=by rfl)(l:(backTo pos (starEach es X.env)).any (·.1)=false:=by rfl):PE X (.Call (.Name x p) (e::es) [] pos) (Qy i sp t):=by
 intro c s b H Q I h;obtain⟨f,o,y,T,g,d,h⟩:=h;refine wpAny_Call_Name_kw (S5 (Eh V R hd n c s b H (λv H'=>v=.ref f/\H'=H) I (_,T,rfl,rfl)) λu L S=>?_);obtain⟨v,H1,B,M,rfl,rfl⟩:=S;obtain rfl:u=Value.ref f:=M;have z:∀{H:Hp}{s:Shared},Inv X c b H s->H f=some (aM f o)->FnAt f s.heap:=λ{H s} J g=>by
  obtain⟨P,O,dt,F⟩:=o;have d:dt=.func y:=d;subst d;exact(P,O,y,F,cV J.hok g)
 refine callWith_F (z B g) (S5 (Y pos c L b H1 _ B h) λE G ⟨D,H2,j,r,m,q⟩=>(z j m,?_)) W l;refine wpAny_call (codeAny_mono (C f X.A X.stack G H2 E D Q U j.env0 r q) λr s' a=>?_);cases r with
 | error e=>exact False.elim a
 | ok Z =>
  cases Z with
  | ret u=>exact j.after a
  | next=>exact False.elim a
  | brk=>exact False.elim a
  | cont=>exact False.elim a
end
def BMain(mg:Str->Option Value)(h:Heap):Prop:=∃b a,mg "__builtins__" = some (.ref b)/\b≠builtinsNs/\h.get? b=some a/\a.cls=.type "module" /\ a.dict=some builtinsNs/\a.data=.plain
inductive TabAt(H:Hp)(P:Addr)(pos:Pos)(qual:Str):Prop
 | mk (ps:Array Value) (_:H P=some (.Tf ps)) (_:TriplesOk ps.toList) (_:(codeAmong pos ps.toList=none \/ ∃(cd:Addr) (oc:Obj) (vs:Array Value) (t:Tok),codeAmong pos ps.toList=some (.ref cd)/\H cd=some (aM cd oc)/\oc.data=.fields vs/\vs[1]?=some (.str qual t)))
section
variable{P:Addr}{params:Arguments}{body:List Stmt}{clos:List (Str×Addr)}{pos:Pos}
theorem Mf{M:Model}{A:Around}{E:Value->Shared->Prop}{Q:Value->Shared->Prop}(I:Inv X π σ H s)(bm:BMain X.mg X.base)(v:X.env.code=.ref c)(C:CodeHd X.base c P)(hT:TabAt H P pos qual)(W:closureFor scope X.env=pure clos)
  (h:∀(fi D:Addr) (f pm g:Value) (j:Obj) (B:Array Value) (t:Tok) (L:Hp) (s1:Shared),Inv X π σ L s1->H fi=none->(∀b o,H b=some o->b≠P->L b=some o)->TabAt L P pos qual ->
   L fi=some (aM fi (fnMade name qual params body scope clos f pm D g))->L D=some (aM D j)->j.data=.fields B->B[1]?=some (.str qual t)->Q (.ref fi) s1):
  wpAny M A (makeFunction name qual params (.stmts body) scope X.env [] [] [] pos n) Q E s:=by
 obtain⟨p,m,r,R⟩:=hT;have y:s.heap.get? P=some (tabObj p):=I.hok P _ m;have G:=I.mod.glob.keeps I.bk;obtain⟨bm,ob,b1,b2,b3,b4,b5,b6⟩:=bm;have T:=I.bk _ _ b3;have a2:mainGlobals≠P:=λq=>by
  obtain⟨o,es,ep,e,hd,_⟩:=G;rw[q,y]at e;cases e;cases hd
 have a3:bm≠P:=λq=>by
  rw[q,y]at T;cases T;cases b4
 have a4:bm≠mainGlobals:=λq=>by
  obtain⟨o,es,ep,e,hd,_⟩:=G;rw[q,e]at T;cases T;rw[hd]at b6;cases b6
 have W0:s.heap.BuiltinsAt X.mg P:=(bm,ob,b1,b2,a4,a3,T,b4,b5,b6);rcases R with V|⟨D,j,B,t,hf,Y,hd,S⟩
 ·refine makeFunction_K (mg:=X.mg) W I.ok.glob G v (C.keeps I.bk) y r V a2 W0 λa g f i tk hx w O Z a0=>?_;obtain⟨c2,j,B,t,e2,a1,hd,S⟩:=Z;cases e2;have nc:H a=none:=I.hok.fresh w;have K:H i.objs.size=none:=I.hok.fresh (adh w (adi O));have Yu:P≠a:=aJ m nc;have Yv:P≠i.objs.size:=aJ m K;have Yw:a≠i.objs.size:=aaq O
  have k1:∀b,b≠P->b≠a->b≠i.objs.size->upd (upd (upd H P (.Tf (p ++ #[rawInt pos.line,rawInt pos.col,.ref a]))) a (aM a j)) i.objs.size (aM i.objs.size (fnMade name qual params body scope clos f ((X.mg "__name__").getD .none) a g)) b=H b:=λb e1 e2 e3=>by
   rw[aH e3,aH e2,aH e1]
  have l:∀b o,H b=some o->b≠P->upd (upd (upd H P (.Tf (p ++ #[rawInt pos.line,rawInt pos.col,.ref a]))) a (aM a j)) i.objs.size (aM i.objs.size (fnMade name qual params body scope clos f ((X.mg "__name__").getD .none) a g)) b=some o:=λb o e n=>by
   rw[k1 b n (aJ e nc) (aJ e K)];exact e
  have kP:upd (upd (upd H P (.Tf (p ++ #[rawInt pos.line,rawInt pos.col,.ref a]))) a (aM a j)) i.objs.size (aM i.objs.size (fnMade name qual params body scope clos f ((X.mg "__name__").getD .none) a g)) P=some (.Tf (p ++ #[rawInt pos.line,rawInt pos.col,.ref a])):=by
   rw[aH Yv,aH Yu,au]
  have kc:upd (upd (upd H P (.Tf (p ++ #[rawInt pos.line,rawInt pos.col,.ref a]))) a (aM a j)) i.objs.size (aM i.objs.size (fnMade name qual params body scope clos f ((X.mg "__name__").getD .none) a g)) a=some (aM a j):=by
   rw[aH Yw,au]
  have kf:upd (upd (upd H P (.Tf (p ++ #[rawInt pos.line,rawInt pos.col,.ref a]))) a (aM a j)) i.objs.size (aM i.objs.size (fnMade name qual params body scope clos f ((X.mg "__name__").getD .none) a g)) i.objs.size=some (aM i.objs.size (fnMade name qual params body scope clos f ((X.mg "__name__").getD .none) a g)):=au
  generalize upd (upd (upd H P (.Tf (p ++ #[rawInt pos.line,rawInt pos.col,.ref a]))) a (aM a j)) i.objs.size (aM i.objs.size (fnMade name qual params body scope clos f ((X.mg "__name__").getD .none) a g))=L at *
  have k:∀b o,s.heap.get? b=some o->b≠P->(i.push (fnMade name qual params body scope clos f ((X.mg "__name__").getD .none) a g)).get? b=some o:=λb o e n=>Heap.get?_push_of_some _ (hx b o n e)
  have F:(i.push (fnMade name qual params body scope clos f ((X.mg "__name__").getD .none) a g)).get? P=some (tabObj (p ++ #[rawInt pos.line,rawInt pos.col,.ref a])):=Heap.get?_push_of_some _ a0
  have hl:(p ++ #[rawInt pos.line,rawInt pos.col,.ref a]).toList=p.toList++[rawInt pos.line,rawInt pos.col,.ref a]:=by simp
  refine h i.objs.size a f _ g j B t L _ (I.call' (ch:=[]) rfl (λb o e n hb N=>?_,λb o e n hb N=>?_,λb o e n N=>?_,λb o e N=>?_,λb xs e=>?_,λb o u e=>?_,λb qs e=>?_) (λb u e=>?_) I.bare λb z=>absurd z (by simp)) K l (_,kP,by rw[hl];exact TriplesOk_snoc _ _ _ _ r,.inr (a,j,B,t,by rw[hl];exact codeAmong_snoc _ r V,kc,hd,S)) kf kc hd S
  ·exact k b o e λz=>by rw[z,m]at n;cases n
  ·exact(o.slots,k b o e λz=>by rw[z,m]at n;cases n)
  ·rw[k1 b (λz=>by rw[z,m]at n;cases n) (aaq (aao (Heap.lt_size e) w)) (aaq (aao (Heap.lt_size e) (adh w (adi O))))];exact n
  ·by_cases z:b=P
   ·exact(_,by rw[z];exact F)
   ·exact(o,k b o e z)
  ·exact l b _ e λz=>by rw[z,m]at e;cases e
  ·exact l b _ e λz=>by rw[z,m]at e;cases e
  ·by_cases z:b=P
   ·rw[z,m]at e;cases e;exact(_,by rw[z];exact kP)
   ·exact(#[],by rw[l b _ e z];simp)
  ·by_cases J:b=i.objs.size
   ·rw[J,kf]at e;cases e;rw[J];exact eV (Heap.get?_push_size _ rfl)
   by_cases z2:b=a
   ·rw[z2,kc]at e;cases e;rw[z2];exact eV (Heap.get?_push_of_some _ a1)
   by_cases z3:b=P
   ·rw[z3,kP]at e;cases e;rw[z3];exact F
   rw[k1 b z3 z2 J]at e;refine(I.hok b u e).stay (λd o x q=>k d o q ?_) (λd q=>l d _ q ?_) λd xs q=>l d _ q ?_
   ·rcases x with rfl|x
    ·exact z3
    ·exact λz=>by rw[z,m]at x;cases x
   ·exact λz=>by rw[z,m]at q;cases q
   ·exact λz=>by rw[z,m]at q;cases q
 ·refine makeFunction_hit (mg:=X.mg) W I.ok.glob G v (C.keeps I.bk) y r hf W0 λg f i tk hk U=>?_;have K:H i.objs.size=none:=I.hok.fresh U
  have l:∀b o,H b=some o->upd H i.objs.size (aM i.objs.size (fnMade name qual params body scope clos f ((X.mg "__name__").getD .none) D g)) b=some o:=λb o e=>by
   rw[aH (aJ e K)];exact e
  have k:∀b o,s.heap.get? b=some o->(i.push (fnMade name qual params body scope clos f ((X.mg "__name__").getD .none) D g)).get? b=some o:=λb o e=>Heap.get?_push_of_some _ (hk b o e)
  refine h i.objs.size D f _ g j B t _ _ (I.call' (ch:=[]) rfl (Un.laid k U K) (λb u e=>?_) I.bare λb z=>absurd z (by simp)) K (λb o e _=>l b o e) (p,l _ _ m,r,.inr (D,j,B,t,hf,l _ _ Y,hd,S)) au (l _ _ Y) hd S;by_cases J:b=i.objs.size
  ·rw[J,au]at e;cases e;rw[J];exact eV (Heap.get?_push_size _ rfl)
  rw[aH J]at e;exact(I.hok b u e).stay (λd o _ q=>k d o q) (λd q=>l d _ q) λd xs q=>l d _ q
end
section
variable{P:Program}{s0:Shared}{H0:Hp}{E:XK}{Q:VK}
theorem Mj{T:vD}{cs:List Addr}{Tc:List V}{pos :Pos}{i:Nat}(I:Inv (gZ CX P w K mg base N qual scope f (.ref c) A outer s0 H0 E) [] σ H s)(bm:BMain mg base)(C:CodeHd base c Pt)(hT:TabAt H Pt pos T.qual)
  (a5:N.Nodup)(hi:N[i]?=some T.name)(y:scope.names.lookup T.name=some .local)(hq:qualnameIn (envOfC qual scope s0.heap.objs.size f (.ref c)) T.name T.name=T.qual)
  (b0:closureFor T.scope (envOfC qual scope s0.heap.objs.size f (.ref c))=pure (T.xs.zip cs))(a9:T.params.defaults=[])(a6:T.params.kw_defaults=[])(ha:annTrees T.params none (envOfC qual scope s0.heap.objs.size f (.ref c))=[])
  (Y:cs.Nodup)(Z:cs.length=T.xs.length)(L:Tc.length=T.xs.length)
  (W2:∀(j:Nat) (a:Addr),cs[j]?=some a -> ∃(x:Str) (m:Nat) (v:V),(envOfC qual scope s0.heap.objs.size f (.ref c)).cells.lookup x=some a/\scope.names.lookup x=some .cell/\N[m]?=some x/\σ[m]?=some (some v)/\Tc[j]?=some v/\m≠i)
  (hQ:∀(D:Addr) (H2:Hp),H D=none->(∀a∈cs,H a=none)->(∀b o,H b=some o->b≠Pt->H2 b=some o)->TabAt H2 Pt pos T.qual->iH H2 D T cs Tc->Q (.ref D) H2)
  (a8:(T.name == ("__debug__" : Str))=false:=by decide)(a0:(T.name == ("__classdict__" : Str))=false:=by decide):
  wpAny (model P w) (A.deeper (envOfC qual scope s0.heap.objs.size f (.ref c))) (execs [.FunctionDef T.name T.params T.body [] none [] T.scope none T.name pos,.Return (some (.Name T.name p)) apos] (envOfC qual scope s0.heap.objs.size f (.ref c)))
   (λfl s'=>∃u,fl=.ret u/\CE outer P w H0 s0 Q u s') (gZ CX P w K mg base N qual scope f (.ref c) A outer s0 H0 E).xe s:=by
 refine wpAny_execs_cons (nestDef_K a9 a6 ha ?_);rw[hq];refine Mf (X:=gZ CX P w K mg base N qual scope f (.ref c) A outer s0 H0 E) (n:=pos.line) I bm rfl C hT b0 λD cd b3 pm b4 oc vs t H1 s1 I1 Yx W b2 a7 b1 hd hv=>?_;refine v9 (X:=gZ CX P w K mg base N qual scope f (.ref c) A outer s0 H0 E) (v:=.ref D) I1 a5 hi (.inl y) rfl (λs2 I2=>?_) (.inr y);have Xm:i<σ.length:=by rw[I.len];exact(aab.mp hi).1
 refine wpAny_execs_cons (wpAny_Return_some (S5 (Eh (X:=gZ CX P w K mg base N qual scope f (.ref c) A outer s0 H0 E) hi (.inl y) a8 a0 [] s2 _ H1 (λv h=>v=.ref D/\h=H1) I2 (_,agF Xm,rfl,rfl)) λu F hu=>?_));obtain⟨v,h,J,rv,rfl,rfl⟩:=hu;exists u,rfl,.ref D,λb=>if b∈cs then (F.heap.get? b).map (aM b)else h b,J.os,J.bare,?_,?_,rv
 all_goals
  have g:∀a∈cs,∃x,(envOfC qual scope s0.heap.objs.size f (.ref c)).cells.lookup x=some a:=λa k=>by
   obtain⟨j,hj⟩:=abk k;obtain⟨x,m,v,h1,_⟩:=W2 j a hj;exact(x,h1)
  have fresh:∀a∈cs,s0.heap.objs.size<=a:=λa k=>by
   obtain⟨x,R⟩:=g a k;exact J.ok.cab x a rfl R
  have a1:∀a∈cs,h a=none:=λa k=>by
   obtain⟨x,R⟩:=g a k;exact J.freeC x a R
  have r:∀b o,h b=some o->b∉cs:=λb o e z=>by
   rw[a1 b z]at e;cases e
 ·have U:Un (frs outer) [] H0 h s0.heap F.heap:=J.base;refine(U.keep,U.slot,λb o e n a4=>?_,U.there,λb xs e=>?_,λb o v e=>?_,λb ps e=>?_)
  ·show (if b∈cs then _ else h b)=none;rw[if_neg (λz=>absurd (aao (Heap.lt_size e) (fresh b z)) (adK _))];exact U.free b o e n a4
  ·have B:=U.tups b xs e;show (if b∈cs then _ else h b)=_;rw[if_neg (r b _ B)];exact B
  ·have B:=U.frzs b o v e;show (if b∈cs then _ else h b)=_;rw[if_neg (r b _ B)];exact B
  ·obtain⟨S,B⟩:=U.tbls b ps e;exists S;show (if b∈cs then _ else h b)=_;rw[if_neg (r b _ B)];exact B
 ·intro b M e;have e:(if b∈cs then (F.heap.get? b).map (aM b)else h b)=some M:=e;by_cases hb:b∈cs
  ·rw[if_pos hb]at e;cases q:F.heap.get? b with
   | none=>rw[q]at e;cases e
   | some o =>
    rw[q]at e;cases e;exact eV q
  ·rw[if_neg hb]at e;refine(J.hok b M e).stay (λ_ _ _ q=>q) (λd q=>?_) λd xs q=>?_
   ·show (if d∈cs then _ else h d)=_;rw[if_neg (r d _ q)];exact q
   ·show (if d∈cs then _ else h d)=_;rw[if_neg (r d _ q)];exact q
 ·have O:∀b o,h b=some o->(λb=>if b∈cs then (F.heap.get? b).map (aM b)else h b) b=some o:=λb o e=>by
   show (if b∈cs then _ else h b)=_;rw[if_neg (r b _ e)];exact e
  refine hQ D _ Yx (λa k=>?_) (λb o e n=>O b o (W b o e n)) ?_ ((cd,b3,pm,b4,oc,vs,t,O _ _ a7,O _ _ b1,hd,hv),λj a hj=>?_,Y,Z,L)
  ·obtain⟨x,R⟩:=g a k;exact I.freeC x a R
  ·obtain⟨ps,B,e2,e3⟩:=b2;exists ps,O _ _ B,e2;rcases e3 with e3|⟨b5,a3,a2,t',e4,e5,e6⟩
   ·exact .inl e3
   ·exact .inr (b5,a3,a2,t',e4,O _ _ e5,e6)
  ·obtain⟨x,m,v,h1,h2,h3,h4,h5,h6⟩:=W2 j a hj;obtain⟨mm,_,hl⟩:=J.loc;obtain⟨M,r',l⟩:=hl m x v h3 (by rw[agT (ae2 h6)];exact h4) (.inr (.inl h2));have l':∃c',(envOfC qual scope s0.heap.objs.size f (.ref c)).cells.lookup x=some c'/\F.heap.IsCell c' (some M):=by
    rcases l with ⟨G,_⟩|⟨_,l2⟩
    ·have G:scope.names.lookup x=some .local:=G;rw[h2]at G;cases G
    ·exact l2
   obtain⟨c',G,co,l2,l3⟩:=l';rw[h1]at G;cases G;refine(co,v,M,h5,?_,l3,r');show (if a∈cs then (F.heap.get? a).map (aM a)else h a)=_;rw[if_pos (aag hj),l2];rfl
theorem Ea{k:Nat}{name:Str}{g:Arguments}{h:List Stmt}{kV B M d R oc:Value}{T Z:Option Addr}{G:Array (Option Value)}{ps:List Str}(lk:K.lookup f=some (oc,Z,.func (PySem.W.fnOf name qual g h scope q kV B M T d R),G))(L:PySem.W.codeIn K d qual=true)(S:aC N ps scope)
  (t:∀i H Q E,sp i H Q E->i.length=ps.length)
  (l:∀(A:Around) (outer:List Env) (s:Shared) (H:Hp) (i:List V) (Q:VK) (E:XK) (m:Shared),dX k (A.deeper (envOfC qual scope s.heap.objs.size f d))->sp i H Q E->Inv (gZ S6 P w K mg base N qual scope f d A outer s H E) [] (start N i) H m ->
   wpAny (model P w) (A.deeper (envOfC qual scope s.heap.objs.size f d)) (execs h (envOfC qual scope s.heap.objs.size f d)) (λO C=>∃u,O=.ret u/\CE outer P w H s Q u C) (gZ S6 P w K mg base N qual scope f d A outer s H E).xe m):
  aV P w K mg base S6 (k+1) f (PySem.W.fnOf name qual g h scope q kV B M T d R) ps sp:=by
 refine(t,λA outer s H X Y i Q E F p hb r z=>?_);have hl:=t _ _ _ _ z;have U:K.In s.heap:=p.mod.WF.keeps λb o e=>(p.bs b o e).1;have J:s.heap.NoLimit:=p.mod.nolimit.keeps λb o e=>(p.bs b o e).1;have j:∀y∈ps.zip Y,scope.names.lookup y.1=some .local\/(scope.names.lookup y.1=some .cell/\((cellsFrom (s.heap.objs.size+1) scope.names []).lookup y.1).isSome=true):=λ⟨n,v⟩ hy=>by
  rcases S.Vn n (agK hy).1 with a|a
  ·exact .inl a
  ·exact .inr (a,PySem.W.cellsFrom_some _ _ _ (.inl a))
 refine codeAny_call_function F.depth (U _ _ lk) rfl S.co S.gen rfl (PySem.W.codeRec_of U L) (hb _ _ _ _ ?_);refine wpAny_newFunctionEnv_cells S.kind j λa0 he m x=>?_;subst he;refine(J.keeps x.toInCall.keep,codeAny_func ?_);have I:Inv (gZ S6 P w K mg base N qual scope f d A outer s H E) [] (start N i) H m:=yC S F.hd p hl r x;refine wpAny_mono (l A outer s H i Q E m (F.deeper _) z I) (λO C D=>?_) λe C D=>D;obtain⟨u,rfl,a⟩:=D;exact a
end
theorem Hr{P:Program}{w:World}{mg mb:Str->Option Value}{k:Nat}{a:Addr}{fd:FuncData}{x:Str}{g:Shared}{y:List Value}{i:List (Addr×Addr)}
  (KX:K.In g.heap)(U:g.heap.Ns mainGlobals mg)(hb:g.heap.Ns builtinsNs mb)(a8:∀x:Str,x ≠ "__name__" -> mb x=bootBuiltins x)(Z:g.heap.NoLimit)(a7:BMain mg g.heap)(A:TabsAt i g.heap)(Yy:noTabs K=true)(hg:g.gens=#[])
  (O:g.heap.get? a=some { cls:=.type "list",data:=.seq y.toArray })(hi:IntsAre y d)(hl:d.length<=sizeLine)(hr:dX k callerA)
  (F:∀base:Heap,K.In base->base.Ns mainGlobals mg->BMain mg base->(∀q∈i,CodeHd base q.1 q.2)->aV P w K mg base S6 k f fd [x] sp)(M:∀(s:Shared) (u:Value),BindsTo s fd ([u],[]) [(pq x u)])
  (a5:∀H:Hp,My K H a (d.map V.int)->(∀q∈i,H q.2=some (.Tf #[]))->sp [.ref a] H (λv _=>v=.bl true) λ_ _ _=>False):
  codeAny (model P w) callerA (.call (.ref f) ([.ref a],[])) (λr C=>r=.ok (.ret (.bool true))/\OldK g.heap C.heap/\C.os=g.os/\AllBare C.gens) g:=by
 have rv:=p7 hi;have lenV:=hi.length;have D:∀b,b∈i.map (·.2)->K.lookup b=none:=λb p=>by
  cases q:K.lookup b with
  | none=>rfl
  | some o =>
   obtain⟨r,j,rfl⟩:=abl.mp p;have e:=KX _ _ q;rw[(A r j).2]at e;cases e;have t:=aiu.mp Yy _ (mem_of_lookupK q);exact absurd (show false=true from t) aar
 have a2:a∉i.map (·.2):=λz=>by
  obtain⟨r,j,e⟩:=abl.mp z;have J:=(A r j).2;rw[e,O]at J;cases J
 have I:∀H:Hp,(∀b,H b=none\/(b=a/\K.lookup a=none/\H b=some (.Ua { cls:=.type "list",data:=.seq y.toArray } (.lst (d.map V.int))))\/(b∈i.map (·.2)/\H b=some (.Tf #[])))->(∀q∈i,H q.2=some (.Tf #[]))->My K H a (d.map V.int)->Ti P w H g.heap ->
   codeAny (model P w) callerA (.call (.ref f) ([.ref a],[])) (λr C=>r=.ok (.ret (.bool true))/\OldK g.heap C.heap/\C.os=g.os/\AllBare C.gens) g:=by
  intro H hO a9 hS T;have l:∀{b:Addr}{o:Obj},g.heap.get? b=some o->H b=none->(vO g.heap H).get? b=some o:=λe n=>Kr e n
  have Wi:∀{b:Addr}{o:Obj},g.heap.get? b=some o->o.cls ≠ .type "list" -> o.cls ≠ .none->H b=none:=λ{b o} e d1 d2=>by
   rcases hO b with z|⟨rfl,_,z⟩|⟨z,_⟩
   ·exact z
   ·rw[O]at e;cases e;exact absurd rfl d1
   ·obtain⟨r,j,rfl⟩:=abl.mp z;rw[(A r j).2]at e;cases e;exact absurd rfl d2
  have a3:∀{b:Addr}{o:Obj}{Q:Array DictEntry}{R:Nat},g.heap.get? b=some o->o.data=.dict Q R->H b=none:=λ{b o Q R} e c=>by
   rcases hO b with z|⟨rfl,_,z⟩|⟨z,_⟩
   ·exact z
   ·rw[O]at e;cases e;have d':Data.seq y.toArray _=Data.dict Q R:=c;cases d'
   ·obtain⟨r,j,rfl⟩:=abl.mp z;rw[(A r j).2]at e;cases e;have d':Data.fields _=Data.dict Q R:=c;cases d'
  have Xw:∀{b:Addr}{m:Str->Option Value},g.heap.Ns b m->(vO g.heap H).Ns b m:=λ{b m} ⟨o,Q,R,e,c,r⟩=>(o,Q,R,l e (a3 e c),c,r);have X:K.In (vO g.heap H):=λb o e=>l (KX b o e) (by
   rcases hO b with z|⟨rfl,z,_⟩|⟨z,_⟩
   ·exact z
   ·rw[e]at z;cases z
   ·rw[D b z]at e;cases e)
  have hM:Mod K mg (vO g.heap H):=(X,Xw U,(mb,Xw hb,a8),let ⟨mc,B,t⟩:=Z;(mc,Xw B,t));have hB:BMain mg (vO g.heap H):=by
   obtain⟨bm,ob,b1,b2,b3,b4,b5⟩:=a7;exact(bm,ob,b1,b2,l b3 (Wi b3 (by rw[b4];decide) (by rw[b4];nofun)),b4,b5)
  have hC:∀q∈i,CodeHd (vO g.heap H) q.1 q.2:=λq S=>by
   obtain⟨o,ws,a0,tf,N,tg,a4,Y,tt,L,r1,r2⟩:=(A q S).1;exact(o,ws,a0,tf,N,tg,a4,Y,tt,l L (Wi L (by rw[r1];decide) (by rw[r1];nofun)),r1,r2)
  have e0:EY P w K mg (vO g.heap H) callerA [] g H:=(rfl,hM,λb o e=>Mz e,ahd (Jm _ _),trivial,λb hb=>absurd (show b∈([]:List Addr)from hb) (by simp),T,.of_eq hg);refine codeAny_mono ((F _ X (Xw U) hB hC).run callerA [] g H ([.ref a],[]) [.ref a] [.ref a] _ _ hr e0 (M g (.ref a)) (.cons rfl .nil) (a5 H hS a9)) λr C h=>?_;cases r with
  | error e=>exact False.elim h
  | ok fl =>
   cases fl with
   | next=>exact False.elim h
   | brk=>exact False.elim h
   | cont=>exact False.elim h
   | ret u =>
    obtain⟨v,H',os,a1,un,G,r',q⟩:=h;have q':v=.bl true:=q;subst q';obtain rfl:u=Value.bool true:=r';refine(rfl,(λb o e=>?_,λb o e=>un.there b o e (by simp)),os,a1);rcases hO b with z|⟨rfl,_,z⟩|⟨z1,z⟩
    ·exact .inl (un.keep b o e z (by intro z;exact absurd (show b∈([]:List Addr)from z) (by simp)) (by simp))
    ·have z2:=un.frzs b _ _ z;obtain⟨L,_⟩:=T b _ z;obtain⟨J,_⟩:=G b _ z2;rw[e]at L;cases L;exact .inl J
    ·obtain⟨E,z2⟩:=un.tbls b _ z;have L:C.heap.get? b=some { cls:=.none,data:=.fields (#[]++E) }:=G b _ z2;obtain⟨r,j,rfl⟩:=abl.mp z1;have J:=(A r j).2;rw[e]at J;cases J;exact .inr (.inl (((A r j).1.tab (A r j).2).isCodeTable,rfl,#[],E,rfl,L))
 cases hk:K.lookup a with
 | some o =>
  have e:=KX a o hk;rw[O]at e;cases e;refine I (λb=>if b∈i.map (·.2)then some (.Tf #[])else none) (λb=>?_) (λq S=>if_pos (ah6 S)) (.inr (_,y.toArray,_,hk,rfl,rfl,rfl,by rw[aax,lenV];exact hl,by simpa using rv)) (λb u z=>?_)
  ·by_cases p:b∈i.map (·.2)
   ·exact .inr (.inr (p,if_pos p))
   ·exact .inl (if_neg p)
  ·by_cases p:b∈i.map (·.2)
   ·have z':=(if_pos p).symm.trans z;cases z';obtain⟨r,j,rfl⟩:=abl.mp p;exact(A r j).2
   ·have z':=(if_neg p).symm.trans z;cases z'
 | none =>
  have hA:(λb=>if b=a then some (.Ua { cls:=.type "list",data:=.seq y.toArray } (.lst (d.map V.int)))else if b∈i.map (·.2)then some (.Tf #[])else none:Hp) a=some (.Ua { cls:=.type "list",data:=.seq y.toArray } (.lst (d.map V.int))):=if_pos rfl
  have Yz:∀b∈i.map (·.2),(λb=>if b=a then some (.Ua { cls:=.type "list",data:=.seq y.toArray } (.lst (d.map V.int)))else if b∈i.map (·.2)then some (.Tf #[])else none:Hp) b=some (.Tf #[]):=λb p=>by
   have a6:b≠a:=λe=>a2 (e ▸ p);show (if b=a then _ else if b∈i.map (·.2)then _ else _)=_;rw[if_neg a6,if_pos p]
  have hN:∀b,b≠a->b∉i.map (·.2)->(λb=>if b=a then some (.Ua { cls:=.type "list",data:=.seq y.toArray } (.lst (d.map V.int)))else if b∈i.map (·.2)then some (.Tf #[])else none:Hp) b=none:=λb B t=>by
   show (if b=a then _ else if b∈i.map (·.2)then _ else _)=_;rw[if_neg B,if_neg t]
  generalize (λb=>if b=a then some (.Ua { cls:=.type "list",data:=.seq y.toArray } (.lst (d.map V.int)))else if b∈i.map (·.2)then some (.Tf #[])else none:Hp)=H at *
  refine I H (λb=>?_) (λq S=>Yz _ (ah6 S)) (.inl (.inr ({ cls:=.type "list",data:=.seq y.toArray },hA))) (λb u z=>?_)
  ·by_cases B:b=a
   ·rw[B];exact .inr (.inl (rfl,hk,hA))
   ·by_cases t:b∈i.map (·.2)
    ·exact .inr (.inr (t,Yz b t))
    ·exact .inl (hN b B t)
  ·by_cases B:b=a
   ·rw[B,hA]at z;cases z;rw[B];exact(O,by rw[aaa];exact hl,y,_,rv,O)
   ·by_cases t:b∈i.map (·.2)
    ·rw[Yz b t]at z;cases z;obtain⟨r,j,rfl⟩:=abl.mp t;exact(A r j).2
    ·rw[hN b B t]at z;cases z
theorem JS{l:PySem.W.OpenLaw}{n k:Nat}{q:Program}{XP:(Str->Option Value)->Heap->Prop}{I:World->Heap->Prop}{d:DefRec}{K:Params->PySem.W.Frag}{x:Str}
  (P:l.most=some n)(A:n<=sizeLine)(C:d.params.defaults=[])(O:dX k callerA)
  (S:∀(w:World) (h:Heap),I w h->(K w.params).In h)
  (F:∀(w:World) (mg y:Str->Option Value) (j:ExcName->Option Value) (r:Addr) (h:Heap),(K w.params).In h->Top q (looseW q N) j mg y h->mg d.name=some (.ref r) ->
   ∃(fd:FuncData) (c:List (Addr×Addr)) (t:Sp),(∀(s:Shared) (u:Value),BindsTo s fd ([u],[]) [(pq x u)])/\TabsAt c h/\noTabs (K w.params)=true /\
    (∀base:Heap,(K w.params).In base->base.Ns mainGlobals mg->BMain mg base->(∀q∈c,CodeHd base q.1 q.2)->aV l.prog w (K w.params) mg base S6 k r fd [x] t) /\
    ∀(H:Hp) (a:Addr) (p:List Int),p.length<=n->My (K w.params) H a (p.map V.int)->(∀q∈c,H q.2=some (.Tf #[]))->t [.ref a] H (λv _=>v=.bl true) λ_ _ _=>False):
  PySem.W.WalkO q N XP I l.row.toRowW d [] (λf E=>PySem.call f E):=by
 refine Xr.attach_call P C λw M L mg y r o pm cd a1 a E p G Y ho hd a0 B m i e Q=>?_;have J:=S w _ Y;obtain⟨fd,c,t,R,U,Yy,Z,z⟩:=F w mg y _ r _ J G.T B;exact Hr J G.T.g G.T.b G.T.builtins G.T.nolimit G.T.bmain U Yy Q m i (adh e A) O Z R λH X D=>z H a p e X D
def Rt(st:Stmt)(c:Str)(ps xs:List Str):vD:=match st with
 | .FunctionDef n a b _ _ _ d _ _ _=>(n,c,a,b,d,ps,xs)
 | _=>("",c,ν st,[],δ st,ps,xs)
def xP:Stmt->Pos
 | .FunctionDef _ _ _ _ _ _ _ _ _ p=>p
 | _=>(0,0,0,0)
structure Qu(N:List Str)(qual:Str)(scope:Scope)(T:vD)(i:Nat)(slots:List Nat)(Uc:Addr->List Addr):Prop where
 nd:N.Nodup
 hi:N[i]?=some T.name
 loc:scope.names.lookup T.name=some .local
 qn:∀(L f:Addr) (c:Value),qualnameIn (envOfC qual scope L f c) T.name T.name=T.qual
 cl:∀(L f:Addr) (c:Value),closureFor T.scope (envOfC qual scope L f c)=pure (T.xs.zip (Uc L))
 d0:T.params.defaults=[]
 k0:T.params.kw_defaults=[]
 an:∀(L f:Addr) (c:Value),annTrees T.params none (envOfC qual scope L f c)=[]
 YB:∀L:Addr,(Uc L).Nodup
 len:∀L:Addr,(Uc L).length=T.xs.length
 fv:∀(L f:Addr) (c:Value) (j:Nat) (a:Addr),(Uc L)[j]?=some a -> ∃(x:Str) (m:Nat),(envOfC qual scope L f c).cells.lookup x=some a/\scope.names.lookup x=some .cell/\N[m]?=some x/\slots[j]?=some m/\m≠i
 db:(T.name == ("__debug__" : Str))=false
 dn:(T.name == ("__classdict__" : Str))=false
def Made(H:Hp)(g:Addr)(pos:Pos)(T:vD)(c:List Nat)(σ:St)(Q:VK):Prop:=
 TabAt H g pos T.qual /\ ∃f:List V,(∀j m:Nat,c[j]?=some m -> ∃v,σ[m]?=some (some v)/\f[j]?=some v)/\f.length=T.xs.length /\
  ∀(e:Addr) (h:List Addr) (d:Hp),H e=none->(∀a∈h,H a=none)->(∀b o,H b=some o->b≠g->d b=some o)->TabAt d g pos T.qual->iH d e T h f->Q (.ref e) d
section
variable{P:Program}{k:Nat}{T:vD}{slots:List Nat}{Uc:Addr->List Addr}{pos p1 p2:Pos}
theorem Ld{A:Around}{s b:Shared}{Q:VK}{E:XK}{σ:St}(M:Qu N qual (δ st) T i slots Uc)(bm:BMain mg base)(C:CodeHd base c Pt)(I:Inv (gZ S6 P w K mg base N qual (δ st) f (.ref c) A outer s H E) [] σ H' b)(h:Made H' Pt pos T slots σ Q):
  wpAny (model P w) (A.deeper (envOfC qual (δ st) s.heap.objs.size f (.ref c))) (execs [.FunctionDef T.name T.params T.body [] none [] T.scope none T.name pos,.Return (some (.Name T.name p1)) p2] (envOfC qual (δ st) s.heap.objs.size f (.ref c)))
   (λB d=>∃u,B=.ret u/\CE outer P w H s Q u d) (gZ S6 P w K mg base N qual (δ st) f (.ref c) A outer s H E).xe b:=by
 obtain⟨q,U,z,t,r⟩:=h;refine Mj (cs:=Uc s.heap.objs.size) (Tc:=U) I bm C q M.nd M.hi M.loc (M.qn _ _ _) (M.cl _ _ _) M.d0 M.k0 (M.an _ _ _) (M.YB _) (M.len _) t (λj a e=>?_) (λD V p o n l g=>r D _ V p o n l g) M.db M.dn;obtain⟨y,m,S,R,O,L,J⟩:=M.fv s.heap.objs.size f (.ref c) j a e;obtain⟨v,G,F⟩:=z j m L;exact(y,m,v,S,R,O,G,F,J)
theorem T7.maker0(F:T7 K x qual st f fd)(S:aC N ps (δ st))(M:Qu N qual (δ st) T i slots Uc)(bm:BMain mg base)(b:fd.code=.ref c)(C:CodeHd base c Pt)(d:∀a H Q E,sp a H Q E->a.length=ps.length)
  (n:μ st=[.FunctionDef T.name T.params T.body [] none [] T.scope none T.name pos,.Return (some (.Name T.name p1)) p2])
  (h:∀(a:List V) (H:Hp) (Q:VK) (E:XK),sp a H Q E->Made H Pt pos T slots (start N a) Q):aV P w K mg base S6 (k+1) f fd ps sp:=by
 obtain⟨u,t,kV,p,r,z,j,y,o,rfl,m,g⟩:=F.ex;obtain rfl:j=.ref c:=b;refine Ea m g S d λA l s H a Q E q v e I=>?_;rw[n];exact Ld M bm C I (h a H Q E e)
theorem Ql{sp:Addr->Sp}(S:v7 N T)(y:∀(n:List (Str×Addr)) (d m b e:Value) (l:List Value),l.length=T.ps.length->bindArgs (fnX T.name T.qual T.params T.body T.scope n .none .none d m none b e) (l,[])=pure (T.ps.zip l))
  (h:∀(f:Addr) (j:List V) (H:Hp) (Q:VK),sp f j H Q E0->j.length=T.ps.length /\ ∃cs Tc,iH H f T cs Tc /\
   ∀(b:Addr) (A:Around) (a:List Env) (s:Shared),dX k (A.deeper (envX T.qual T.scope s.heap.objs.size f (.ref b) (T.xs.zip cs))) -> ∃t,Ub (sU P w K mg base N T.qual T.scope f (.ref b) (T.xs.zip cs) A a s (hide H cs)) T.body t/\t { nx:=λ_ H'=>Q .non (over H cs H'),rt:=λv H'=>Q v (over H cs H') } (start N (j++Tc)) (hide H cs)):
  fH P w K mg base (k+1) sp:=by
 intro f A a s H l j Q u z r o;obtain⟨q,cs,Tc,B,g⟩:=h f j H Q o;exact Nu S u z B (λn d m b e=>.of_eq (y n d m b e l (by rw[<-r.length];exact q))) r q λb p=>g b A a s p
end
theorem tab0{P:Addr}{pos:Pos}(h:H P=some (.Tf #[])):TabAt H P pos x:=(#[],h,trivial,.inl rfl)
theorem uI{x:Str}{f c P:Addr}{e:Value}{h g:Option Addr}{fd:FuncData}{d b:Array (Option Value)}(a:nsIn K mainGlobals x=some (some (.ref f)))(l:K.lookup f=some (q,h,.func fd,d))(i:fd.code=.ref c)
  (t:K.lookup c=some (e,g,.fields I,b))(p:I[11]?=some (.ref P)):tabIn K x=some (pq c P):=by
 unfold tabIn;simp only[a,l,i,t,p]
end L2
namespace PySem
open PyProof.Rows
namespace F
theorem lri_no_len:typeLookup (.type "list_reverseiterator") "__len__" = pure none:=by rw[typeLookup_type,builtinLookup_eq_fast];kernel_rfl
theorem lri_hint:typeLookup (.type "list_reverseiterator") "__length_hint__" = pure (some (.builtin "list_reverseiterator.__length_hint__")):=by rw[typeLookup_type,builtinLookup_eq_fast];kernel_rfl
end F
section
theorem uF{l:Addr}{i:Int}{Q:Bool->Shared->Prop}(d:s.heap.IsRevIter a l i)(h:Q false s):wpAny (model prog w) A (Builtin.List.listLengthHint (.ref a)) Q E s:=by
 unfold Builtin.List.listLengthHint;refine wpAny_bind (wpAny_specialOf d.typeIs F.lri_no_len ?_)
 show wpAny _ A (specialOf (Value.ref a) (Str.ofString "__length_hint__") >>= _) _ _ _
 refine wpAny_bind (wpAny_specialOf d.typeIs F.lri_hint ?_)
 generalize e:("list_reverseiterator.__length_hint__" : String)=id0
 wp_delta
 rw[show splitId id0=some (pq ("list_reverseiterator") ("__length_hint__"))from by subst e;decide +kernel]
 subst e
 refine wpAny_bind (wpAny_isInstance (T := "list_reverseiterator") (b:=true) d.typeIs (by rw[isSubtype_type];kernel_rfl) ?_)
 refine wpAny_ite_split (λc=>absurd c (by decide)) (λ_=>?_);refine wpAny_ite_split (λ_=>?_) (λc=>absurd (by decide +kernel) c);refine wpAny_ite_split (λc=>absurd c (by decide +kernel)) (λ_=>?_);exact wpAny_pure h
end
section
theorem qe{l:Addr}{items:Array Value}(O:A.handled=none)(E:l≠a)(S:Addr)(k:Value)(n:Nat)(d:s.heap.IsRevIter a l ((items.size:Int) - 1))(K:s.heap.IsList l items)(r:S≠a)(B:S≠l)
  (D:s.heap.get? S=some { cls:=.type "list",data:=.seq #[] n })
  (P:∀h' tk c x,(∀b o,b≠S->b≠a->s.heap.get? b=some o->h'.get? b=some o)->h'.get? S=some { cls:=.type "list",dict:=none,data:=.seq c x,slots:=#[] } ->
   ItemsOf (λi v=>items[items.size - 1 - i]?=some v) c items.size->R (.ok (.ret k)) { s with heap:=h',toks:=tk })(M:items.size<=sizeLine):
  wpAny (model prog w) A.in1 (Builtin.List.listExtendWith (.ref S) (.ref a) k)
   (λJ p=>match J with | .done f=>R (.ok f) p | .again x=>x.quiet=true/\codeAny (model prog w) A x R p) (λe p=>R (.error e) p) s:=by
 have H:S∉[a,l]:=λu=>by
  rcases aaH.mp u with e|u
  ·exact r e
  ·exact B (aaj.mp u)
 have W:=(Walks.listRev (prog:=prog) (w:=w) (A:=A.in1) O a l E items).toS;have z:∀(h:Heap) (j tk:Nat),h.IsRevIter a l ((items.size:Int) - 1)->h.IsList l items->(∀b o,b≠S->s.heap.get? b=some o->h.get? b=some o) ->
   h.get? S=some { cls:=.type "list",data:=.seq #[] j }->codeAny (model prog w) A (.builtin "list.extend.loop" ([.ref S,.ref a,k],[])) R { s with heap:=h,toks:=tk }:=by
  intro h j tk m t N Y;refine codeAny_extend_loopS W M S H k items.size 0 _ #[] j rfl (aaK _) (aaK _,?_,t) Y (ItemsOf.nil _) λp c x u I C=>?_
  ·have e:(items.size:Int) - 1 - ((0:Nat):Int)=(items.size:Int) - 1:=by lia
   rw[e];exact m
  rw[Moved.eq_with u];refine P p.heap p.toks c x (λb o y G e=>u.heap b o (λg=>?_) (N b o y e)) I C;rcases aaH.mp g with V | g
  ·exact y V
  ·exact G (aaj.mp g)
 unfold Builtin.List.listExtendWith;refine wpAny_bind (wpAny_typeOf d.typeIs ?_);have U:Builtin.List.listSameRef (.ref S) (.ref a)=false:=by simp[Builtin.List.listSameRef,r]
 have T:(Value.type "list_reverseiterator" == Value.type "list")=false:=by decide
 have Q:(Value.type "list_reverseiterator" == Value.type "tuple")=false:=by decide
 simp only[U,T,Q,ahJ,acr,if_false];refine wpAny_bind (wpAny_pyIter_revIter d ?_);refine wpAny_bind (wpAny_holding (uF d ?_));refine wpAny_ite_split (λ_=>?_) (λ_=>wpAny_pure (plainId_quiet F.plain_extend_loop _,z _ n _ d K (λb o _ e=>e) D));refine wpAny_bind (wpAny_rule ?_);refine wpAny_bind ?_;show wpAny _ _ (updateSeq S (·.push .none) >>= λ_=>updateSeq S (·.pop)) _ _ _;refine wpAny_bind (wpAny_updateSeq D rfl ?_);have L:=Heap.get?_update_self (Obj.mapSeq (·.push Value.none)) D rfl;refine wpAny_updateSeq (hz:=by seq_fits) L rfl ?_;have X:=Heap.get?_update_self (Obj.mapSeq (·.pop)) L rfl;have q:∀b o,b≠S->s.heap.get? b=some o->((s.heap.update S (Obj.mapSeq (·.push Value.none))).update S (Obj.mapSeq (·.pop))).get? b=some o:=
  λb o y e=>(Heap.get?_update_other _ _ (ae2 y)).trans ((Heap.get?_update_other _ _ (ae2 y)).trans e)
 exact wpAny_pure (plainId_quiet F.plain_extend_loop _,z _ _ _ (d.at λo e=>q a o (ae2 r) e) (K.at λo e=>q l o (ae2 B) e) q X)
theorem m8{l:Addr}{items:Array Value}(D:A.handled=none)(r:l≠a)(S:Addr)(t:s.heap.IsRevIter a l ((items.size:Int) - 1))(B:s.heap.IsList l items)(j:S≠a)(h:S≠l)
  (p:s.heap.get? S=some { cls:=.type "list",data:=.seq #[] })
  (E:∀h' tk c g,(∀b o,b≠S->b≠a->s.heap.get? b=some o->h'.get? b=some o)->h'.get? S=some { cls:=.type "list",dict:=none,data:=.seq c g,slots:=#[] } ->
   ItemsOf (λi v=>items[items.size - 1 - i]?=some v) c items.size->R (.ok (.ret .none)) { s with heap:=h',toks:=tk })(z:items.size<=sizeLine):
  wpAny (model prog w) A.in1 (Builtin.«list.__init__» ([.ref S,.ref a],[]))
   (λy m=>match y with | .done f=>R (.ok f) m | .again g=>g.quiet=true/\codeAny (model prog w) A g R m) (λe m=>R (.error e) m) s:=by
 show wpAny _ _ (do let q <-Builtin.List.listItems (.ref S);Builtin.List.listUpdate (.ref S) (λ_=>#[]);letGo q.toList.reverse;Builtin.List.listExtendWith (.ref S) (.ref a) .none) _ _ s;refine wpAny_bind ?_;unfold Builtin.List.listItems;refine wpAny_bind (wpAny_seqItems p rfl (wpAny_pure ?_));show wpAny _ _ (updateSeq S (λ_=>#[]) >>= λ_=>letGo (#[]:Array Value).toList.reverse >>= λ_=>Builtin.List.listExtendWith (.ref S) (.ref a) .none) _ _ s;refine wpAny_bind (wpAny_updateSeq p rfl ?_);have F:=Heap.get?_update_self (Obj.mapSeq (λ_=>(#[]:Array Value))) p rfl;have d:∀b o,b≠S->s.heap.get? b=some o->(s.heap.update S (Obj.mapSeq (λ_=>(#[]:Array Value)))).get? b=some o:=
  λb o n e=>(Heap.get?_update_other _ _ (ae2 n)).trans e
 refine wpAny_bind (wpAny_letGo ?_);refine qe D r S .none _ (t.at λo e=>d a o (ae2 j) e) (B.at λo e=>d l o (ae2 h) e) j h F (λh' tk c g C x k=>?_) z;exact E h' tk c g (λb o n u e=>C b o n u (d b o n e)) x k
end
section
theorem xf{Q:Value->Shared->Prop}{l:Addr}{items:Array Value}(y:A.handled=none)(p:l≠a)(g:s.heap.IsRevIter a l ((items.size:Int) - 1))(r:s.heap.IsList l items)(u:items.size<=sizeLine)
  (B:∀h' tk c k,(∀b o,b≠a->s.heap.get? b=some o->h'.get? b=some o)->h'.get? s.heap.objs.size=some { cls:=.type "list",dict:=none,data:=.seq c k,slots:=#[] } ->
   ItemsOf (λi v=>items[items.size - 1 - i]?=some v) c items.size->Q (.ref s.heap.objs.size) { s with heap:=h',toks:=tk }):
  wpAny (model prog w) A (call (.type "list") [.ref a]) Q E s:=by
 obtain⟨D,n,_⟩:=id g;obtain⟨C,m,_⟩:=id r
 refine callType_codes (Q₁:=λf d=>f=.ref s.heap.objs.size/\d={ s with heap:=s.heap.push { cls:=.type "list",data:=.seq #[] } }) F.called_list (F.typeCall_list_1 _) F.entry_list_init
  (code_list_new _ (rfl,rfl)) λf d h=>?_
 obtain⟨rfl,rfl⟩:=h
 have t:(s.heap.push { cls:=.type "list",data:=.seq #[] }).get? s.heap.objs.size=some { cls:=.type "list",data:=.seq #[] }:=Heap.get?_push_size _ rfl
 refine((_,t,rfl),F.args_list_init_2 _ _,m8 (A:=A.in1) y p _ (g.at λo e=>Heap.get?_push_of_some _ e) (r.at λo e=>Heap.get?_push_of_some _ e) (agZ (Heap.lt_size n)) (agZ (Heap.lt_size m)) t (λh' tk c k x q j=>?_) u);exact(rfl,B h' tk c k (λb o z e=>x b o (aaq (Heap.lt_size e)) z (Heap.get?_push_of_some _ e)) q j)
end
end PySem
namespace L2
open PySem.Spec PyProof.Rows PySem.W
section
inductive MF(K:PySem.W.Frag)(Q:VK)(vs:List V)(H1:Hp):Prop
 | mk (p ys:_) (_:vs=[.ref p]) (_:My K H1 p ys) (_:∀l,H1 l=none->Q (.ref l) (upd H1 l (.lst ys.reverse)))
def Rg(K:PySem.W.Frag)(b:TA):TE:=λ a H Q=>b a H (MF K Q)
theorem Fz{a:Expr}{p pos d:Pos}(hc:X.calm=true)(hg:Gl X "list")(Y:X.mg "list" = none)(U:bootBuiltins "list" = some (.type "list"))(A:Gl X "reversed")(z:X.mg "reversed" = none)(w:bootBuiltins "reversed" = some (.type "reversed"))
  (ha:PA X [a] t)(V:starEach [a] X.env=[(pq false (eval a X.env))]:=by rfl)
  (D:starEach [.Call (.Name "reversed" apos) [a] [] d] X.env=(pq false (eval (.Call (.Name "reversed" apos) [a] [] d) X.env))::starEach [] X.env:=by rfl)(x:(backTo pos (starEach [] X.env)).any (·.1)=false:=by rfl):
  PE X (.Call (.Name "list" p) [.Call (.Name "reversed" apos) [a] [] d] [] pos) (Rg X.K t):=by
 intro M s L H Q I h;refine wpAny_Call_Name_kw (dW I hg Y U ?_);refine PyProof.Rows.callWith_type1 ?_ D x;rw[D]
 show wpAny _ _ (spliced ((pq false (eval (.Call (.Name "reversed" apos) [a] [] d) X.env))::backTo pos (starEach [] X.env))) _ _ s
 refine Calls.spliced_cons ?_;refine Call_ (dW I A z w (PyProof.Rows.callWith_type1 (S5 (ha d M s L H _ I h) λus j ⟨vs,H1,v,R,S⟩=>?_) V rfl));obtain⟨b,N,e,W,q⟩:=S;subst e;obtain⟨u,rfl,P⟩:=vals1 R;cases P;obtain⟨g,C,n,T⟩:=v.list W;have hl:=C.length;obtain⟨ob,y,J,F,G⟩:=id n.isList;have B:b<j.heap.objs.size:=Heap.lt_size y;refine call_reversed_list n.isList ?_;refine Calls.spliced_nil ?_;refine xf (I.ok.hd hc) (l:=b) (items:=g.toArray) (aaq B) (_,Heap.get?_push_size _ rfl,rfl,rfl) (n.isList.push _) (by rw[aax];lia) λh' O f c' Z hS k=>?_;have m:f=g.reverse.toArray:=by
  obtain⟨E,e2⟩:=k;apply Array.ext
  ·rw[E,aax,aax,aht]
  ·intro i r h2;have:=e2 i f[i] (Array.getElem?_eq_getElem r);rw[aax,ahe,<-List.getElem?_reverse (by rw[E,aax]at r;exact r)]at this;rw[ahm];exact(aap ((aad _).symm.trans this)).symm
 subst m;refine(.ref _,_,v.laid (t':=O) (o:=.lst N.reverse) (λc o e=>Z c o (aaq (Heap.lt_size e)) (Heap.get?_push_of_some _ e)) ?_ (by rw[aht];exact T,g.reverse,c',C.reverse,hS),rfl,q _ (v.hok.fresh ?_))
 ·show j.heap.objs.size<=(j.heap.push _).objs.size;simp[Heap.push]
 ·show j.heap.objs.size<=(j.heap.push _).objs.size;simp[Heap.push]
end
end L2
namespace Tw
def pairs(f:Nat):List Int:=(aaB f [1,0]).flatten
def Tree(a:List Int):Prop:=2<=a.length/\ht a a.length=0 /\ ∀k,0<k->k<a.length->0<ht a k
inductive ir(n:Nat)(S:Nat):Prop
 | mk (h:_) (_:S=2^h) (_:n<=S) (_:∀j,j<h->2^j<n)
theorem ir.uniq{n :Nat}(a:ir n i)(b:ir n U):i=U:=by
 obtain⟨h,rfl,f,d⟩:=a;obtain⟨k,rfl,e,c⟩:=b;rcases agw h k with q|q|q
 ·have:=c h q;lia
 ·rw[q]
 ·have:=d k q;lia
theorem ir.pos{n :Nat}(a:ir n i):1<=i:=by
 obtain⟨h,rfl,_⟩:=a;exact Nat.one_le_two_pow
theorem ir.le{n :Nat}(a:ir n i)(h:n<=4096):i<=4096:=by
 obtain⟨k,rfl,c,b⟩:=a;rcases aas 12 k with q|q
 ·have:=b 12 q;lia
 ·exact adh (ah2 (by decide) q) (by decide)
def NodeOk(S st a n e:Nat):Prop:=1<=n/\S<=n*2^e/\(n+1)*2^e<=S+a/\(1<n->S<=n / 2*2^(e+1)/\(n / 2+1)*2^(e+1)<=2*S/\(n / 2*2^(e+1)<S+st\/S+a<(n / 2+1)*2^(e+1)))
def Chain(S st a:Nat):List Nat->Nat->Nat->Prop
 | [],x,y=>x=y
 | n::r,x,y=>∃e,n*2^e=x/\NodeOk S st a n e/\Chain S st a r ((n+1)*2^e) y
theorem Chain.append{S st a:Nat}:∀{l m:List Nat}{x y z:Nat},Chain S st a l x y->Chain S st a m y z->Chain S st a (l++m) x z
 | [],m,x,y,z,h,k=>by
  cases h;exact k
 | n::r,m,x,y,z,h,k=>by
  obtain⟨e,d,c,b⟩:=h;exact(e,d,c,b.append k)
theorem Chain.one{st n e:Nat}(h:NodeOk i st U n e):Chain i st U [n] (n*2^e) ((n+1)*2^e):=(e,rfl,h,rfl)
structure Uw(S st sp e low high:Nat)(ls rs:List Nat):Prop where
 lo1:S+st<=low*2^e
 lo2:low*2^e<S+st+2^e
 hi1:high*2^e<=S+sp
 hi2:S+sp<high*2^e+2^e
 le:low<=high
 left:Chain S st sp ls (S+st) (low*2^e)
 right:Chain S st sp rs.reverse (high*2^e) (S+sp)
theorem Uw.start{st :Nat}(h:st<=i):Uw n st i 0 (n+st) (n+i) [] []:=by
 exists by lia,by lia,by lia,by lia,by lia,?_
 ·show n+st=(n+st)*2^0;lia
 ·show (n+i)*2^0=n+i;lia
theorem Aa{e n:Nat}(c:2^i<=n*2^e)(b:n*2^e<2*2^i)(a:1<n):e<i:=by
 rcases aas e i with q|q
 ·exact q
 ·exfalso;have:2^i<=2^e:=ah2 (by decide) q;have:2*2^e<=n*2^e:=afV _ a;lia
theorem Nq{e m:Nat}(d:e<n)(a:2^n<=(2*m+1)*2^e):2^n<=m*2^(e+1):=by
 have c:2^n=2^(n - e - 1)*2^(e+1):=by
  rw[<-aiU];congr 1;lia
 rw[c]at a ⊢;refine afV _ ?_;rw[agb]at a;have b:2^(n - e - 1)*(2^e*2)=(2*2^(n - e - 1))*2^e:=by
  rw[afW (2^e) 2,<-agr,afW _ 2]
 rw[b]at a;have:=Nat.le_of_mul_le_mul_right a (afS e);lia
theorem Uw.leftOdd{st e a:Nat}{f:List Nat}(c:Uw n st i e U a u f)(g:∃h,n=2^h)(q:i<=n)(x:1<=n)(d:U<a)(w:U%2=1):Chain n st i (u++[U]) (n+st) ((U+1)*2^e):=by
 obtain⟨h,b⟩:=g;obtain⟨m,rfl⟩:∃m,U=2*m+1:=(U / 2,by lia);have v:0<2^e:=afS e;have t:(2*m+1+1)*2^e<=a*2^e:=afV _ d;have s:=c.lo1;have r:=c.lo2;have y:=c.hi1;have p:(2*m+1) / 2=m:=by lia
 have l:m*2^(e+1)=2*(m*2^e):=by rw[agb,<-agr,afW]
 have k:(2*m+1)*2^e=2*(m*2^e)+2^e:=by rw[agN,agr,agO]
 have A:(2*m+1+1)*2^e=2*(m*2^e)+2^e+2^e:=by rw[agN,k,agO]
 have z:(m+1)*2^(e+1)=2*(m*2^e)+2*2^e:=by rw[agN,l,agO,agb];lia
 refine c.left.append (.one (by lia,by lia,by lia,λj=>?_));rw[p];have ht:e<h:=by
  refine Aa (n:=2*m+1) ?_ ?_ j
  ·rw[<-b];lia
  ·rw[<-b];lia
 have o:=Nq (m:=m) ht (by rw[<-b];lia);rw[<-b]at o;exact(o,by lia,.inl (by lia))
theorem Uw.rightOdd{st e a:Nat}{d:List Nat}(c:Uw n st i e U a u d)(j:∃h,n=2^h)(t:i<=n)(A:1<=n)(v:U<a)(z:a%2=1):Chain n st i (d++[a - 1]).reverse ((a - 1)*2^e) (n+i):=by
 obtain⟨m,rfl⟩:∃m,a=2*m+1:=(a / 2,by lia);have y:0<2^e:=afS e;have x:U*2^e<=(2*m)*2^e:=afV _ (by lia);have f:=c.lo1;have C:=c.hi1;have B:=c.hi2;have w:1<=U:=by
  rcases acz U with q|q
  ·rw[q,ahA]at f;lia
  ·exact q
 have s:m*2^(e+1)=2*(m*2^e):=by rw[agb,<-agr,afW]
 have F:(2*m+1)*2^e=2*(m*2^e)+2^e:=by rw[agN,agr,agO]
 have E:(2*m)*2^e=2*(m*2^e):=by rw[agr]
 have D:(m+1)*2^(e+1)=2*(m*2^e)+2*2^e:=by rw[agN,s,agO,agb];lia
 have r:2*m+1 - 1=2*m:=by lia
 have p:2*m / 2=m:=by lia
 have g:=c.right;rw[agk,r];refine Chain.append (l:=[2*m]) (.one (by lia,by lia,by lia,λk=>?_)) g;rw[p];obtain⟨h,b⟩:=j;have ht:e<h:=by
  refine Aa (n:=2*m) ?_ ?_ k
  ·rw[<-b];lia
  ·rw[<-b];lia
 have o:2*n=2^(h - e)*2^(e+1):=by
  rw[b,<-aiU,afW,<-agb];congr 1;lia
 refine(by lia,?_,.inr (by lia));rw[o];refine afV _ ?_;have:m*2^(e+1)<2^(h - e)*2^(e+1):=by lia
 have:=Nat.lt_of_mul_lt_mul_right this;lia
theorem Uw.step{st e a:Nat}{g:List Nat}(c:Uw n st i e U a u g)(q:∃h,n=2^h)(d:i<=n)(r:1<=n)(f:U<a):
  Uw n st i (e+1) ((U+U%2) / 2) ((a - a%2) / 2) (if U%2=1 then u++[U]else u) (if a%2=1 then g++[a - 1]else g):=by
 have w:=c.lo1;have v:=c.lo2;have A:=c.hi1;have y:=c.hi2;have x:0<2^e:=afS e;have j:2^(e+1)=2*2^e:=by rw[agb,afW]
 have b:∀m,m*2^(e+1)=(2*m)*2^e:=λm=>by rw[j,<-agr,afW m 2]
 have k:2*((U+U%2) / 2)=U+U%2:=by lia
 have l:2*((a - a%2) / 2)=a - a%2:=by lia
 have p:(U+U%2)*2^e=U*2^e+(U%2)*2^e:=agN ..;have o:(a - a%2)*2^e+(a%2)*2^e=a*2^e:=by
  rw[<-agN];congr 1;lia
 have t:(U%2)*2^e=if U%2=1 then 2^e else 0:=by
  split
  ·rename_i z;rw[z,agO]
  ·rename_i z;rw[show U%2=0 from by lia,ahA]
 have s:(a%2)*2^e=if a%2=1 then 2^e else 0:=by
  split
  ·rename_i z;rw[z,agO]
  ·rename_i z;rw[show a%2=0 from by lia,ahA]
 exists ?_,?_,?_,?_,by lia,?_
 ·rw[b,k,p];lia
 ·rw[b,k,p,j,t];split <;> lia
 ·rw[b,l];lia
 ·rw[b,l,j];rw[s]at o;split at o <;> lia
 ·rw[b,k];split
  ·rename_i z;rw[z];exact c.leftOdd q d r f z
  ·rename_i z;rw[show U%2=0 from by lia,ahB];exact c.left
 ·rw[b,l];split
  ·rename_i z;rw[z];exact c.rightOdd q d r f z
  ·rename_i z;rw[show a%2=0 from by lia,agA];exact c.right
theorem Uw.fin{st e a:Nat}{b:List Nat}(c:Uw n st i e U a u b)(h:a<=U):Chain n st i (u++b.reverse) (n+st) (n+i):=by
 have:U=a:=ahU c.le h;subst this;exact c.left.append c.right
def Az:Nat->Nat->Nat->List Nat->List Nat->List Nat
 | 0,_,_,d,c=>d++c.reverse
 | f+1,b,a,d,c=>if b<a then Az f ((b+b%2) / 2) ((a - a%2) / 2) (if b%2=1 then d++[b]else d) (if a%2=1 then c++[a - 1]else c)else d++c.reverse
theorem K3{f :Nat}{a:List Nat}(h:i<=n):Az f n i u a=u++a.reverse:=by
 cases f with
 | zero=>rfl
 | succ f =>
  unfold Az;rw[if_neg (by lia)]
theorem vp{S st g:Nat}(k:∃h,S=2^h)(d:g<=S)(l:1<=S):∀(f e b a:Nat) (j i:List Nat),Uw S st g e b a j i->a - b<=f->Chain S st g (Az f b a j i) (S+st) (S+g)
 | 0,e,b,a,j,i,c,h=>c.fin (by lia)
 | f+1,e,b,a,j,i,c,h=>by
  unfold Az;by_cases q:b<a
  ·rw[if_pos q];exact vp k d l f (e+1) _ _ _ _ (c.step k d l q) (by lia)
  ·rw[if_neg q];exact c.fin (by lia)
def cover(S st a:Nat):List Nat:=Az (a - st) (S+st) (S+a) [] []
theorem rQ{st :Nat}(b:∃h,n=2^h)(h:st<=i)(a:i<=n)(c:1<=n):Chain n st i (cover n st i) (n+st) (n+i):=
 vp b a c _ 0 _ _ _ _ (.start h) (by lia)
end Tw
namespace PySem
open PyProof.Rows
namespace F
end F
section
end
end PySem
namespace L2
open PySem.Spec PyProof.Rows
section
theorem Ow(a b:Nat):Builtin.Range.rangeSize a b (-1)=((a - b:Nat):Int):=by
 unfold Builtin.Range.rangeSize;rw[if_neg (by decide),show (- -1:Int)=1 from rfl,air];split <;> lia
theorem DR{a b:Nat}(d:a<536870912)(c:b<536870912):Builtin.Range.small a b (-1)=true:=by
 unfold Builtin.Range.small Builtin.Range.rangeFitsLong;rw[Ow];have e:(2:Int)^63=9223372036854775808:=by decide
 rw[e,if_neg (by decide)];refine iz (iz (iz (iz (iz (decide_eq_true ?_) (decide_eq_true ?_)) (iz (decide_eq_true ?_) (decide_eq_true ?_))) (by decide)) (iz (decide_eq_true ?_) (decide_eq_true ?_))) ?_
 ·lia
 ·lia
 ·lia
 ·lia
 ·lia
 ·lia
 ·rw[ahT];exact .inr (iz (decide_eq_true (by lia)) (decide_eq_true (by lia)))
inductive JV(R:It->Hp->Prop)(vs:List V)(H1:Hp):Prop
 | mk (a b:Nat) (_:vs=[.int (a:Int),.int (b:Int),.int (-1)]) (_:a<536870912) (_:b<536870912) (_:R (V3 a (-1) (a - b)) H1)
def Qd(b:TA):TI:=λ a H R=>b a H (JV R)
theorem FZ{a b c:Expr}{p pos:Pos}(F:Gl X "range")(E:X.mg "range" = none)(J:PA X [a,b,c] t)(D:starEach [a,b,c] X.env=[(pq false (eval a X.env)),(pq false (eval b X.env)),(pq false (eval c X.env))]:=by rfl)
  (j:starEach [b,c] X.env=[(pq false (eval b X.env)),(pq false (eval c X.env))]:=by rfl):PI X tg (.Call (.Name "range" p) [a,b,c] [] pos) (Qd t):=by
 intro u s n H R I h;refine Call_ (dW I F E boot_range (PyProof.Rows.callWith_type1 (S5 (J pos u s n H _ I h) λO g ⟨N,v,M,w,A⟩=>?_) (by rw[D,j]) (by rw[j];rfl)));obtain⟨x,y,e,C,B,q⟩:=A;subst e;cases w with
 | cons r i =>
  cases i with
  | cons z i =>
   cases i with
   | cons m i =>
    cases i;obtain⟨d,rfl⟩:=r;obtain⟨k,rfl⟩:=z;obtain⟨f,rfl⟩:=m;refine call_range_3 (by decide) ?_ (.inl (PyProof.noPylong_small (by decide)));refine wpAny_pyIter_range (IsRange.new ..) (DR C B) ?_
    have l:Inv X u n v { g with heap:=g.heap.push { cls:=.type "range",data:=.fields #[.int x d,.int y k,.int (-1) f] },toks:=g.toks }:=M.kept λb o e=>Heap.get?_push_of_some _ e
    refine((g.heap.push { cls:=.type "range",data:=.fields #[.int x d,.int y k,.int (-1) f] }).objs.size,[(g.heap.push { cls:=.type "range",data:=.fields #[.int x d,.int y k,.int (-1) f] }).objs.size],_,_,v,rfl,
     l.kept (t':=g.toks) λb o e=>Heap.get?_push_of_some _ e,p8 _ x (-1) (x - y),?_,λb G=>?_,q)
    ·have L:(x:Int)+((0:Nat):Int)*(-1)=x:=by lia
     have K:((x - y:Nat):Int) - ((0:Nat):Int)=Builtin.Range.rangeSize x y (-1):=by rw[Ow];lia
     show IsRangeIter _ _ ((x:Int)+((0:Nat):Int)*(-1)) (((x - y:Nat):Int) - ((0:Nat):Int)) (-1);rw[L,K];exact Heap.get?_push_size _ rfl
    ·have e:b=(g.heap.push { cls:=.type "range",data:=.fields #[.int x d,.int y k,.int (-1) f] }).objs.size:=by simpa using G
     subst e;exact l.fpOk (aac _) (l.hok.fresh (aac _))
end
end L2
namespace Tw
def NI(x:V):Prop:=x=.non \/ ∃i,x=.int i
def xO:V->V->V
 | .non,y=>y
 | .int a,.int b=>.int (if b<a then b else a)
 | x,_=>x
theorem xM(y:V):xO .non y=y:=by cases y <;> rfl
theorem Lb{x y:V}(b:NI x)(a:NI y):NI (xO x y):=by
 rcases b with rfl|⟨i,rfl⟩
 ·rw[xM];exact a
 ·rcases a with rfl|⟨j,rfl⟩
  ·exact .inr (i,rfl)
  ·exact .inr (_,rfl)
def Ak(a:List Int)(i:Nat):V:=match a[i]? with|some c=>.int c|none=>.non
theorem uD{i:Nat}{c:Int}(h:d[i]?=some c):Ak d i=.int c:=by
 unfold Ak;rw[h]
theorem Dm{i:Nat}(h:d.length<=i):Ak d i=.non:=by
 unfold Ak;rw[agq h]
structure jg(ns:List Int)(S k:Nat)(xs:List V):Prop where
 len:xs.length=2*S
 zero:xs[0]?=some .non
 leaf:∀i,i<S->xs[S+i]?=some (Ak ns i)
 node:∀j,k<=j->1<=j->j<S -> ∃x y,xs[2*j]?=some x/\xs[2*j+1]?=some y/\xs[j]?=some (xO x y)
 ni:∀x∈xs,NI x
theorem jg.start(k:1<=n)(b:d.length<=n):jg d n n (aaB n V.non++d.map V.int++aaB (n - d.length) V.non):=by
 refine(?_,?_,λi c=>?_,λj g f e=>by lia,λx a=>?_)
 ·simp only[aaf,abt,aaa];lia
 ·rw[abm,aaw (by rw[abt];lia),agh,if_pos (by lia)]
 ·rw[abm,aaz (by rw[abt];lia),abt,af2];by_cases h:i<d.length
  ·rw[aaw (by rw[aaa];exact h),aah,aad h,uD (aad h)];rfl
  ·rw[aaz (by rw[aaa];lia),aaa,agh,if_pos (by lia),Dm (by lia)]
 ·rcases abn.mp a with a|a
  ·rcases abn.mp a with a|a
   ·exact .inl (agx a)
   ·obtain⟨i,_,rfl⟩:=abl.mp a;exact .inr (i,rfl)
  ·exact .inl (agx a)
theorem jg.step{k:Nat}{xs:List V}{x y:V}(h:jg d n (k+1) xs)(A:1<=k)(w:k<n)(m:xs[2*k]?=some x)(l:xs[2*k+1]?=some y):jg d n k (xs.set k (xO x y)):=by
 have o:=h.len;have f:∀j,j≠k->(xs.set k (xO x y))[j]?=xs[j]?:=λj p=>agT (ae2 p);refine(by rw[aiB];exact o,?_,λi q=>?_,λj a b c=>?_,λz g=>?_)
 ·rw[f 0 (by lia)];exact h.zero
 ·rw[f (n+i) (by lia)];exact h.leaf i q
 ·by_cases e:j=k
  ·subst e;exists x,y,?_,?_
   ·rw[f (2*j) (by lia)];exact m
   ·rw[f (2*j+1) (by lia)];exact l
   ·exact agF (by lia)
  ·obtain⟨u,v,t,s,r⟩:=h.node j (by lia) b c;exists u,v,?_,?_
   ·rw[f (2*j) (by lia)];exact t
   ·rw[f (2*j+1) (by lia)];exact s
   ·rw[f j e];exact r
 ·rcases List.mem_or_eq_of_mem_set g with g|rfl
  ·exact h.ni z g
  ·exact Lb (h.ni x (aag m)) (h.ni y (aag l))
theorem Gr{xs:List V}{j:Nat}{x:V}(h:xs[j]?=some x):Tz xs (j:Int)=some x:=mY h
def uM(d:List Int)(a b:Nat)(M:Int):Prop:=(∃i,a<=i/\i<b/\d[i]?=some M) /\ ∀i c,a<=i->i<b->d[i]?=some c->M<=c
theorem uM.join{a b c:Nat}{N:Int}(h:uM d a b m)(k:uM d b c N)(v:a<=b)(u:b<=c):uM d a c (if N<m then N else m):=by
 obtain⟨⟨i,r,y,p⟩,s⟩:=h;obtain⟨⟨j,w,o,n⟩,l⟩:=k;constructor
 ·split
  ·exact(j,by lia,o,n)
  ·exact(i,r,by lia,p)
 ·intro t x g f e;rcases aas t b with q|q
  ·have:=s t x g q e;split <;> lia
  ·have:=l t x q f e;split <;> lia
theorem jg.least{b:List Int}{S:Nat}{xs:List V}(h:jg b S 1 xs)(k:b.length<=S):∀e n a:Nat,n*2^e=S+a->a+2^e<=b.length->1<=n -> ∃M,xs[n]?=some (.int M)/\uM b a (a+2^e) M
 | 0,n,a,d,j,g=>by
  rw[ahf]at j;rw[ahf,Nat.mul_one]at d;have f:b[a]?=some b[a]:=aad (by lia);have:=h.leaf a (by lia);rw[<-d,uD f]at this;refine(_,this,(a,aac _,by lia,f),λi c B A e=>?_);have:i=a:=by lia
  subst this;rw[f]at e;cases e;exact aiD _
 | e+1,n,a,d,j,g=>by
  have C:0<2^e:=afS e;have o:2^(e+1)=2*2^e:=by rw[agb,afW]
  rw[o]at d j;have p:2*n*2^e=S+a:=by rw[<-d,<-agr,afW n 2]
  have w:(2*n+1)*2^e=S+(a+2^e):=by rw[agN,p,agO];lia
  have s:n<S:=by
   rcases aas n S with z|z
   ·exact z
   ·exfalso;have:S*(2*2^e)<=n*(2*2^e):=afV _ z;have:2*S<=S*(2*2^e):=by
     rw[afW 2 S];exact ah7 _ (by lia)
    lia
  obtain⟨M,v,r⟩:=jg.least h k e (2*n) a p (by lia) (by lia);obtain⟨N,u,q⟩:=jg.least h k e (2*n+1) (a+2^e) w (by lia) (by lia);obtain⟨x,y,m,l,t⟩:=h.node n g g s;rw[v]at m;rw[u]at l;cases m;cases l;exists _,t;have:=r.join q (by lia) (by lia);rw[o,show a+2*2^e=a+2^e+2^e from by lia];exact this
def pR(xs:List V)(n:Nat):Int:=match xs[n]? with|some (.int M)=>M|_=>0
theorem il{xs:List V}{n:Nat}(h:xs[n]?=some (.int m)):pR xs n=m:=by
 unfold pR;rw[h]
theorem nQ{d:List Int}{S st j:Nat}{xs:List V}(h:jg d S 1 xs)(x:d.length<=S)(s:j<=d.length):∀{l:List Nat}{a b:Nat},Chain S st j l (S+a) (S+b)->b<=j ->
  a<=b/\(∀n∈l,1<=n/\n<2*S/\xs[n]?=some (.int (pR xs n)))/\(∀v∈l.map (pR xs),∃i,a<=i/\i<b/\d[i]?=some v) /\ ∀i c,a<=i->i<b->d[i]?=some c -> ∃v∈l.map (pR xs),v<=c
 | [],a,b,g,_=>by
  have g:S+a=S+b:=g;exact(by lia,nofun,nofun,λi c N w _=>by lia)
 | n::r,a,b,g,P=>by
  obtain⟨e,z,⟨t,T,F,_⟩,A⟩:=g;have O:0<2^e:=afS e;have Q:(n+1)*2^e=S+(a+2^e):=by rw[agL,z];lia
  rw[Q]at A F;obtain⟨N,w,L,K⟩:=nQ h x s A P;obtain⟨M,u,H,G⟩:=h.least x e n a z (by lia) t;have o:=il u;have R:n<=n*2^e:=Nat.le_mul_of_pos_right _ O;refine(by lia,λk m=>?_,λv f=>?_,λi c J I y=>?_)
  ·rcases aaH.mp m with rfl|m
   ·exact(t,by lia,by rw[o];exact u)
   ·exact w k m
  ·rw[aaA]at f;rcases aaH.mp f with rfl|f
   ·obtain⟨i,C,B,p⟩:=H;exact(i,C,by lia,by rw[o];exact p)
   ·obtain⟨i,C,B,p⟩:=L v f;exact(i,by lia,B,p)
  ·rcases aas i (a+2^e)with q|q
   ·exact(M,by rw[aaA,o];exact .head _,G i c J q y)
   ·obtain⟨v,E,D⟩:=K i c q I y;exact(v,by rw[aaA];exact .tail _ E,D)
theorem jg.kids{xs:List V}(h:jg d n 1 xs)(f:d.length<=n){e m b:Nat}(i:m*2^(e+1)=n+b)(s:b+2^(e+1)<=d.length)(g:1<=m):
  ∃M N,xs[2*m]?=some (.int M)/\xs[2*m+1]?=some (.int N)/\uM d b (b+2^e) M/\uM d (b+2^e) (b+2^(e+1)) N/\pR xs m=(if N<M then N else M)/\2*m*2^e=n+b/\(2*m+1)*2^e=n+(b+2^e)/\m<n:=by
 have v:0<2^e:=afS e;have u:2^(e+1)=2*2^e:=by rw[agb,afW]
 rw[u]at i s ⊢;have a:2*m*2^e=n+b:=by rw[<-i,<-agr,afW m 2]
 have p:(2*m+1)*2^e=n+(b+2^e):=by rw[agN,a,agO];lia
 have c:m<n:=by
  rcases aas m n with z|z
  ·exact z
  ·exfalso;have:n*(2*2^e)<=m*(2*2^e):=afV _ z;have:2*n<=n*(2*2^e):=by
    rw[afW 2 n];exact ah7 _ (by lia)
   lia
 obtain⟨M,o,r⟩:=h.least f e (2*m) b a (by lia) (by lia);obtain⟨N,l,q⟩:=h.least f e (2*m+1) (b+2^e) p (by lia) (by lia);obtain⟨x,y,k,j,t⟩:=h.node m g g c;rw[o]at k;rw[l]at j;cases k;cases j;refine(M,N,o,l,r,?_,il t,a,p,c);rw[show b+2*2^e=b+2^e+2^e from by lia];exact q
def Xx(a:List Int)(s x y:Nat)(g:Int)(i:Nat):Prop:=x<=i/\i<y/\(∃c,a[i]?=some c/\c<=g) /\ ∀j c,x<=j->j<y->(if s=0 then j<i else i<j)->a[j]?=some c->g<c
structure w5(ns:List Int)(xs:List V)(S s x y:Nat)(g:Int)(e m b:Nat):Prop where
 at_:m*2^e=S+b
 lo:x<=b
 hi:b+2^e<=y
 one:1<=m
 low:pR xs m<=g
 out:∀j c,x<=j->j<y->(if s=0 then j<b else b+2^e<=j)->ns[j]?=some c->g<c
theorem w5.hit{xs:List V}{s x y m b:Nat}{g:Int}(h:jg d n 1 xs)(q:d.length<=n)(B:y<=d.length)(C:s<=1)(a:w5 d xs n s x y g 0 m b):m=n+b/\Xx d s x y g b:=by
 have t:=a.at_;have r:=a.hi;rw[ahf]at t r;obtain⟨M,w,⟨i,A,p,o⟩,_⟩:=h.least q 0 m b a.at_ (by rw[ahf];lia) a.one;have u:i=b:=by rw[ahf]at p;lia
 subst u;have e:=a.low;rw[il w]at e;refine(by lia,a.lo,by lia,(M,o,e),λj c l k f v=>a.out j c l k ?_ v);split
 ·rename_i z;rw[if_pos z]at f;exact f
 ·rename_i z;rw[if_neg z]at f;rw[ahf];lia
theorem w5.step{xs:List V}{s x y m b e:Nat}{g:Int}(h:jg d n 1 xs)(H:d.length<=n)(K:y<=d.length)(L:s<=1)(a:w5 d xs n s x y g (e+1) m b):
  ∃v,xs[2*m+s]?=some (.int v)/\m<n/\2*m+s<2*n/\(v<=g -> ∃A,w5 d xs n s x y g e (2*m+s) A)/\(g<v -> ∃A,w5 d xs n s x y g e (2*m+1 - s) A):=by
 have B:=a.hi;have r:=a.lo;have t:=a.one;have O:0<2^e:=afS e;have J:2^(e+1)=2*2^e:=by rw[agb,afW]
 obtain⟨M,N,w,u,G,C,I,F,E,D⟩:=h.kids H a.at_ (by lia) t;have i:=a.low;rw[I]at i;have f:=a.out;rw[J]at B f C;rcases(show s=0\/s=1 by lia)with rfl|rfl
 ·refine(M,w,D,by lia,λq=>(b,F,r,by lia,by lia,by rw[ahB,il w];exact q,λj c p o k l=>f j c p o k l),λq=>(b+2^e,E,by lia,by lia,by lia,?_,λj c p o k l=>?_))
  ·show pR xs (2*m+1 - 0)<=g;rw[agA,il u];split at i <;> lia
  ·rw[if_pos rfl]at k;rcases aas j b with z|z
   ·exact f j c p o (by rw[if_pos rfl];exact z) l
   ·have:=G.2 j c z k l;lia
 ·refine(N,u,D,by lia,λq=>(b+2^e,E,by lia,by lia,by lia,by rw[il u];exact q,λj c p o k l=>f j c p o ?_ l),λq=>(b,?_,r,by lia,by lia,?_,λj c p o k l=>?_))
  ·rw[if_neg (by decide)]at k ⊢;lia
  ·rw[ag3];exact F
  ·rw[ag3,il w];split at i <;> lia
  ·rw[if_neg (by decide)]at k;rcases aas j (b+2*2^e)with z|z
   ·have:=C.2 j c k z l;lia
   ·exact f j c p o (by rw[if_neg (by decide)];exact z) l
theorem w5.start{xs:List V}{s n a e:Nat}{g:Int}(k:n*2^e=i+a)(h:1<=n)(f:pR xs n<=g):w5 d xs i s a (a+2^e) g e n a:=
 (k,aac _,aac _,h,f,λj c m l b _=>by split at b <;> lia)
theorem rR{S st a:Nat}:∀{l:List Nat}{x y:Nat} (k:Nat),Chain S st a l x y -> ∃z,Chain S st a (l.take k) x z/\Chain S st a (l.drop k) z y
 | l,x,y,0,h=>(x,rfl,h)
 | [],x,y,k+1,h=>(x,rfl,h)
 | n::r,x,y,k+1,h=>by
  obtain⟨e,g,f,d⟩:=h;obtain⟨z,c,b⟩:=rR k d;exact(z,(e,g,f,c),b)
theorem De{S st a:Nat}:∀{l:List Nat}{x y:Nat},Chain S st a l x y->x<=y
 | [],x,y,h=>ahd h
 | n::r,x,y,h=>by
  obtain⟨e,c,_,b⟩:=h;have:=De b;have:n*2^e<=(n+1)*2^e:=afV _ (agj _);lia
def TQ(a:List Int)(n:Nat):List Int:=(adU (n+1)).map λk=>(a.take (32*k)).sum
theorem dZ(a:List Int)(n:Nat):(TQ a n).length=n+1:=by simp[TQ]
theorem o8{n k:Nat}(h:k<=n):(TQ d n)[k]?=some (d.take (32*k)).sum:=by
 have:k<n+1:=by lia
 simp[TQ,this]
def jA(bs:List Int)(k:Nat):Int:=((bs.take k).map λb=>ones b 32).sum
theorem rT{bs:List Int}{k:Nat}{b:Int}(h:bs[k]?=some b):jA bs (k+1)=jA bs k+ones b 32:=by
 unfold jA;rw[abW,h];simp[ag2]
def aheads(bs:List Int)(n:Nat):List Int:=(adU (n+1)).map (jA bs)
theorem wJ(bs:List Int)(n:Nat):(aheads bs n).length=n+1:=by simp[aheads]
theorem Bp(bs:List Int)(n:Nat):aheads bs (n+1)=aheads bs n++[jA bs (n+1)]:=by
 unfold aheads;rw[af1,aal];rfl
theorem Bm(bs:List Int)(n:Nat):aheads bs n=(adU n).map (jA bs)++[jA bs n]:=by
 unfold aheads;rw[af1,aal];rfl
theorem pZ{a:List Int}(h:aZ a):∀k:Nat,k<=many a.length->jA (bD a) k=(a.take (32*k)).sum
 | 0,_=>by simp[jA]
 | k+1,b=>by
  rw[rT (mX (by lia)),pZ h k (by lia),mO h k 32 (by lia)];rfl
theorem zm(h:aZ d):aheads (bD d) (bD d).length=TQ d (many d.length):=by
 rw[bA];unfold aheads TQ;refine agC λk a=>?_;have:=agi.mp a;exact pZ h k (by lia)
def wide(n j:Nat):Nat:=min 32 (n - 32*j)
def xY(a:List Int)(j:Nat)(m:Int):Prop:=(∃k,32*j<k/\k<=32*j+32/\k<=a.length/\m=ht a k) /\ ∀k,32*j<k->k<=32*j+32->k<=a.length->m<=ht a k
theorem xY.of(h:aZ d){j:Nat}(g:m∈nets (cB d j) (wide d.length j))(b:∀a∈nets (cB d j) (wide d.length j),m<=a):xY d j (ht d (32*j)+m):=by
 unfold wide at *;constructor
 ·obtain⟨k,f,c,rfl⟩:=BW.mp g;refine(32*j+k,by lia,by lia,by lia,?_);rw[pM h j k (by lia)]
 ·intro k f c i;have:=b _ (BW.mpr (k - 32*j,by lia,by lia,rfl));have e:=pM h j (k - 32*j) (by lia);rw[show 32*j+(k - 32*j)=k from by lia]at e;lia
structure DP(ns ls:List Int):Prop where
 len:ls.length=many ns.length
 low:∀j m,ls[j]?=some m->xY ns j m
def hts(a:List Int)(n:Nat):List Int:=(adU (n+1)).map (ht a)
theorem Tree.pos(t:Tree d){k:Nat}(h:k<=d.length):0<=ht d k:=by
 obtain⟨e,b,a⟩:=t;rcases acz k with rfl|c
 ·rw[jk];decide
 rcases aas k d.length with q|q
 ·have:=a k c q;lia
 ·have:k=d.length:=by lia
  rw[this,b];decide
def dR(c:List Int)(a b:Nat)(g:Int)(k:Nat):Prop:=a<k/\k<=b/\ht c k<=g /\ ∀i,a<i->i<k->g<ht c i
def jD(c:List Int)(a b:Nat)(g:Int)(k:Nat):Prop:=a<k/\k<=b/\ht c k<=g /\ ∀i,k<i->i<=b->g<ht c i
def cG(c:List Int)(a b:Nat)(g:Int):Prop:=∀i,a<i->i<=b->g<ht c i
theorem pF(h:aZ d){j st k:Nat}{g:Int}(e:n<=32):Due (cB d j) st n (g - ht d (32*j)) k ↔ st<k/\k<=n/\ht d (32*j+k)<=g:=by
 unfold Due;constructor
 ·rintro⟨a,b,c⟩;have:=pM h j k (by lia);exact(a,b,by lia)
 ·rintro⟨a,b,c⟩;have:=pM h j k (by lia);exact(a,b,by lia)
theorem first_within(h:aZ d){j st k:Nat}{g:Int}(e:n<=32)(hd:Due (cB d j) st n (g - ht d (32*j)) k)(f:∀i,Due (cB d j) st n (g - ht d (32*j)) i->k<=i):dR d (32*j+st) (32*j+n) g (32*j+k):=by
 obtain⟨a,b,c⟩:=(pF h e).mp hd;refine(by lia,by lia,c,λi m l=>?_);rcases ahC g (ht d i)with q|q
 ·exact q
 ·have:=f (i - 32*j) ((pF h e).mpr (by lia,by lia,by rw[show 32*j+(i - 32*j)=i from by lia];exact q));lia
theorem last_within(h:aZ d){j st k:Nat}{g:Int}(e:n<=32)(hd:Due (cB d j) st n (g - ht d (32*j)) k)(f:∀i,Due (cB d j) st n (g - ht d (32*j)) i->i<=k):jD d (32*j+st) (32*j+n) g (32*j+k):=by
 obtain⟨a,b,c⟩:=(pF h e).mp hd;refine(by lia,by lia,c,λi m l=>?_);rcases ahC g (ht d i)with q|q
 ·exact q
 ·have:=f (i - 32*j) ((pF h e).mpr (by lia,by lia,by rw[show 32*j+(i - 32*j)=i from by lia];exact q));lia
theorem rZ(h:aZ d){j st :Nat}{g:Int}(a:n<=32)(b:∀i,¬Due (cB d j) st n (g - ht d (32*j)) i):cG d (32*j+st) (32*j+n) g:=λi e c=>by
 rcases ahC g (ht d i)with q|q
 ·exact q
 ·exact absurd ((pF h a).mpr (by lia,by lia,by rw[show 32*j+(i - 32*j)=i from by lia];exact q)) (b (i - 32*j))
theorem cG.join{a b c:Nat}{g:Int}(h:cG d a b g)(k:cG d b c g):cG d a c g:=λi f e=>by
 rcases aas b i with q|q
 ·exact k i q e
 ·exact h i f q
theorem cG.empty{a b:Nat}{g:Int}(h:b<=a):cG d a b g:=λi e c=>by lia
theorem DP.none(h:DP d M){i j:Nat}{g:Int}(f:∀t c,i<=t->t<j->M[t]?=some c->g<c){b:Nat}(o:b<=32*j)(n:b<=d.length):cG d (32*i) b g:=λk m l=>by
 have a:=h.len;have ht:(k - 1) / 32<M.length:=by
  rw[a];unfold many;lia
 have e:=aad ht;have q:=f ((k - 1) / 32) _ (by lia) (by lia) e;have p:=(h.low _ _ e).2 k (by lia) (by lia) (by lia);lia
theorem DP.some(h:DP d M){t:Nat}{c g:Int}(e:M[t]?=.some c)(i:c<=g):¬cG d (32*t) (min (32*t+32) d.length) g:=λz=>by
 obtain⟨⟨k,a,f,b,j⟩,_⟩:=h.low t c e;have:=z k a (by lia);lia
theorem dR.after{a b c k:Nat}{g:Int}(h:cG d a b g)(f:dR d b c g k)(o:a<=b):dR d a c g k:=by
 obtain⟨p,n,m,l⟩:=f;refine(by lia,n,m,λi j e=>?_);rcases aas b i with q|q
 ·exact l i q e
 ·exact h i j q
theorem dR.wider{a b c k:Nat}{g:Int}(f:dR d a b g k)(h:b<=c):dR d a c g k:=(f.1,by have:=f.2.1;lia,f.2.2)
theorem jD.ahead{a b c k:Nat}{g:Int}(h:cG d b c g)(f:jD d a b g k)(o:b<=c):jD d a c g k:=by
 obtain⟨n,p,m,l⟩:=f;refine(n,by lia,m,λi j e=>?_);rcases aas b i with q|q
 ·exact h i q e
 ·exact l i j q
theorem jD.wider{a b k:Nat}{g:Int}(f:jD d a b g k)(h:n<=a):jD d n b g k:=(by have:=f.1;lia,f.2)
def FN(a:List Int)(b:Nat)(g:Int)(k:Nat):Prop:=k<b/\ht a k<=g /\ ∀i,k<i->i<b->g<ht a i
def QJ(a:List Int)(b:Nat)(g:Int):Prop:=∀i,i<b->g<ht a i
theorem PP(h:aZ d){k:Nat}(a:k<d.length):(d[k]?=some 1/\ht d (k+1)=ht d k+1)\/(d[k]?=some 0/\ht d (k+1)=ht d k - 1):=by
 have e:=aad a;rcases h _ (abX a)with z|z
 ·right;rw[z]at e;exact(e,by rw[jU e];lia)
 ·left;rw[z]at e;exact(e,by rw[jU e];lia)
end Tw
namespace L2
open PySem.Spec PyProof.Rows
section
theorem Ez{iter:Expr}{g k:List Expr}{pos:Pos}{l:Value}{f:Env}{R:Result->Shared->Prop}(J:Nat->Shared->Prop)
  (t:∀n a,J n a->wpAny (model prog w) A (pyNext q) (λr x=>match r with
   | none=>R (.ok .next) x
   | some v=>wpAny (model prog w) A (letOwnedTupleGo (.Tuple g i p) q v) (λ_ F=>wpAny (model prog w) A (assign (.Tuple g i p) f v) (λ_ E =>
     wpAny (model prog w) A (forIn k true λc r=>if r=true then do let j <-isTrue c f (eval c f);pure (ForInStep.yield j)else pure (ForInStep.yield r)) (λj u=>if j=true then
      wpAny (model prog w) A (eval o f) (λy D=>wpAny (model prog w) A (call (.builtin "list.append") [l,y]) (λ_ C=>∃m,m<n/\J m C) (notedBy (model prog w) A f λe b=>R (.error e) b) D) (notedBy (model prog w) A f λe b=>R (.error e) b) u
      else ∃m,m<n/\J m u) (notedBy (model prog w) A f λe b=>R (.error e) b) E)
     (notedBy (model prog w) A f λe b=>R (.error e) b) F) (notedBy (model prog w) A f λe b=>R (.error e) b) x) (notedBy (model prog w) A f λe b=>R (.error e) b) a)
  (n:Nat)(h:J n s):codeAny (model prog w) A (.compLoop (.ListComp o [(.Tuple g i p,iter,k,0)] scope pos) 0 q l f) R s:=by
 refine codeAny_loop rfl J (λn a G=>wpAny_noted ?_) n h;rw[compTurn_list];refine wpAny_bind (wpAny_standAt (wpAny_bind (wpAny_mono (t n a G) (λr x B=>?_) λ_ _ d=>d)));cases r with
 | none=>exact wpAny_pure B
 | some v =>
  refine wpAny_bind (wpAny_mono B (λ_ F L=>wpAny_bind (wpAny_mono L (λ_ E K=>wpAny_bind (wpAny_mono K (λj u z=>?_) λ_ _ d=>d)) λ_ _ d=>d)) λ_ _ d=>d);cases j with
  | false=>exact wpAny_pure (rfl,z)
  | true=>exact wpAny_bind (wpAny_bind (wpAny_mono z (λy D I=>wpAny_bind (wpAny_mono I (λ_ C H=>wpAny_pure (wpAny_pure (rfl,H))) λ_ _ d=>d)) λ_ _ d=>d))
end
structure pH(X:Cx)(x z:Str)(caps:List (Str×Nat))(scope:Scope)(cl:List (Str×Addr)):Prop where
 o:cH X x caps scope cl
 hz:scope.names.lookup z=some .local
 nd:(x::z::caps.map (·.1)).Nodup
section
theorem Inv.comp2{x :Str}{h':Heap}{tk:Nat}{m:Str->Option Value}{C:Addr}(I:Inv X π σ H s)(E:pH X x qual D scope y)(O:∀b∈j,gK X π H b)
    (Y:∀b∈j,b<s.heap.objs.size)(L:s.heap.objs.size<=a)(P:s.heap.objs.size<=C)(Z:a≠C)(K:∀b o,s.heap.get? b=some o->h'.get? b=some o)(hn:h'.Ns C m)(hL:h'.get? a=some { cls:=.type "list",data:=.seq #[] }):
    Inv (bJ X (x::qual::D.map (·.1)) scope y C s H j) [] (none::none::fD D σ) (upd H a (.lst [])) { s with heap:=h',toks:=tk }:=by
  have WT:=I.hok.fresh L;have V:=I.hok.fresh P;have B:∀d c,(bJ X (x::qual::D.map (·.1)) scope y C s H j).env.cells.lookup d=some c->X.env.cells.lookup d=some c:=λd c e=>E.o.cls d c e;have Yp:∀d c,X.env.cells.lookup d=some c->c<s.heap.objs.size:=λd c e=>by
    obtain⟨v,q⟩:=I.cell d c e;exact q.lt
  have up:∀b u,H b=some u->upd H a (.lst []) b=some u:=λb u q=>by rw[aH (aJ q WT)];exact q
  have ok:(bJ X (x::qual::D.map (·.1)) scope y C s H j).Ok:=by
    refine(I.ok.mod,E.o.kind,I.ok.glob,I.ok.blt,P,λd qual c h1 h2=>I.ok.inj d qual c (B d c h1) (B qual c h2),λd hy=>E.o.has d hy,λd c h=>absurd (show false=true from h) aar,I.ok.hd,I.ok.frames,.inl rfl,λb A=>?_,I.bs,adh I.ok.U4 I.sz,λb o e A=>?_,λb A hz=>?_,I.stack,I.stkFree)
    · obtain⟨f0,T,S,R,Q,f5⟩:=O b A
      exact(aaq (aao (Y b A) P),λd c e=>Q d c (B d c e))
    · obtain⟨f0,T,S,R,Q,f5⟩:=O b A
      rcases R with qual|qual
      · exact I.ok.noex b o e qual
      · exact absurd (aao (aao (Heap.lt_size e) I.ok.U4) qual) (adK _)
    · obtain⟨f0,T,S,R,Q,f5⟩:=O b A
      rcases aaH.mp (I.stkSub b hz)with qual|qual
      · exact T qual
      · exact S qual
  exists ok,rfl,I.bare,?_,(m,hn,λi d v e1 U e3=>?_),λd c e=>?_,?_,λd c e=>?_,λp hp=>absurd (show p∈([]:List (Addr×Obj))from hp) (by simp),?_
  · exact Un.laid K L WT
  · cases i with
    | zero=>cases U
    | succ i =>
     cases i with
     | zero=>cases U
     | succ i =>
      have g:(D.map (·.1))[i]?=some d:=e1;have n:(fD D σ)[i]?=some (some v):=U;rw[aah]at g;unfold fD at n;rw[aah]at n;cases F:D[i]? with
      | none=>rw[F]at g;cases g
      | some p =>
        rw[F]at g n;obtain⟨t,f⟩:=p;have ey:t=d:=aap g;subst ey;have M:(σ[f]?).getD none=some v:=aap n;have a0:σ[f]?=some (some v):=by
          cases q:σ[f]? with
          | none=>rw[q]at M;cases M
          | some w=>rw[q]at M;exact congrArg some M
        obtain⟨c1,c2,c3⟩:=E.o.cap t f (aag F);obtain⟨m0,a1,hl⟩:=I.loc;obtain⟨u,r,l⟩:=hl f t v c1 a0 (by rcases c2 with qual|qual;exact .inr (.inl qual);exact .inr (.inr qual));refine(u,r,.inr (c3,?_));rcases l with ⟨k,_⟩|⟨k,c,F,qual⟩
        · have J:X.env.scope.names.lookup t=some .local:=k
          rcases c2 with qual|qual
          · rw[qual]at J;cases J
          · rw[qual]at J;cases J
        · obtain⟨c',G⟩:=E.o.has t c3
          have e4:=E.o.cls t c' G;rw[F]at e4;cases e4;obtain⟨o,N,hd⟩:=qual;exact(c,G,o,K _ _ N,hd)
  · obtain⟨v,o,N,hd⟩:=I.cell d c (B d c e)
    exact(v,o,K _ _ N,hd)
  · show upd H a (.lst []) C=none
    rw[aH (ae2 Z)];exact V
  · have W:=Yp d c (B d c e)
    rw[aH (aaq (aao W L))];exact I.freeC d c (B d c e)
  · exact I.hok.laid K L (aaK _,[],_,.nil,hL)
  · show (none::none::fD D σ).length=(x::qual::D.map (·.1)).length
    simp[sG]
def yK(K:PySem.W.Frag)(J:It)(d:St)(k:TE)(l:Addr->Hp->Prop)(H:Hp):Prop:=
 ∀D,H D=none -> ∃W:Nat->Nat->List V->Hp->Prop,(∃m,W 0 m [] (upd H D (.lst []))) /\ ∀i m a b,W i m a b ->
  (J.stop i b/\l D b)\/(J.go i b /\ ∀v c,J.Uv i b v c -> ∃g f e,v=.ref g/\S7 K c g [f,e] /\
   k (some f::some e::d) c λy j=>j D=some (.lst a)/\a.length<sizeLine /\ ∃h,h<m/\W (i+1) h (a++[y]) (upd j D (.lst (a++[y]))))
def vP(K:PySem.W.Frag)(J:It)(e:St)(tt:TT)(n:TE)(o:Addr->Hp->Prop)(H:Hp):Prop:=
 ∀D,H D=none -> ∃W:Nat->Nat->List V->Hp->Prop,(∃m,W 0 m [] (upd H D (.lst []))) /\ ∀i m a d,W i m a d ->
  (J.stop i d/\o D d)\/(J.go i d /\ ∀v h,J.Uv i d v h -> ∃j g f,v=.ref j/\S7 K h j [g,f] /\
   tt (some g::some f::e) h λb l=>if b=true then
   n (some g::some f::e) l λy k=>k D=some (.lst a)/\a.length<sizeLine /\ ∃c,c<m/\W (i+1) c (a++[y]) (upd k D (.lst (a++[y])))else ∃c,c<m/\W (i+1) c a l)
theorem rN{x :Str}{tp pos:Pos}{iter:Expr}{J:It}{tn:Nat->Heap->Prop}{tt:TT}
  {RR:Value->Addr->Result->Shared->Prop}{E:Value->Shared->Prop}(I:Inv X π σ H s)(hc:X.calm=true)(R:pH X x qual D scope y)(T:Turn X.prog X.w X.K (.Tuple [.Name x p,.Name qual apos] n tp) J j a tn)(st:tn 0 s.heap)(hf:∀b∈j,gK X π H b)
  (ht:∀C s1 H1 TV,Vz (bJ X (x::qual::D.map (·.1)) scope y C s1 H1 TV) v tt)(he:∀C s1 H1 TV,PE (bJ X (x::qual::D.map (·.1)) scope y C s1 H1 TV) e ta)(rd:vP X.K J (fD D σ) tt ta B H)
  (b5:∀L C s' H' m,Inv X π σ H' s'->s'.heap.Ns C m->gK X π H' C->B L H'->RR (.ref L) C (.ok .next) s'):
  wpAny (model X.prog X.w) X.A (newList []) (λa7 s3=>wpAny (model X.prog X.w) X.A (newFunctionEnv scope X.env.globals y [] X.env.qual none .none (some X.env)) (λa1 s4 =>
   codeAny (model X.prog X.w) X.A (.compStart (.ListComp e [(.Tuple [.Name x p,.Name qual apos] n tp,iter,v,0)] scope pos) 0 (.ref a) a7 { a1 with scope:=relabel scope X.env }) (RR a7 a1.locals) s4) E s3) E s:=by
 have a3:∀b∈j,b<s.heap.objs.size:=λb O=>by
  obtain⟨o,k,_⟩:=T.obj _ _ st b O;exact Heap.lt_size k
 refine wpAny_newObj_type (wpAny_newFunctionEnv R.o.ρ (by intro M hy;simp at hy) (λh1 a2 Z=>?_) R.o.kind);dsimp only at a2 Z ⊢;obtain⟨L,eD⟩:∃L:Nat,L=s.heap.objs.size:=(_,rfl)
 obtain⟨N,Vq⟩:∃g,g=s.heap.push { cls:=.type "list",dict:=none,data:=.seq ([]:List Value).toArray }:=(_,rfl)
 rw[<-Vq]at a2 Z ⊢;rw[<-eD];have hC:N.objs.size=L+1:=by rw[Vq,Heap.size_push,eD]
 have a6:s.heap.objs.size<=N.objs.size:=by rw[hC,eD];exact agj _
 have b6:L≠N.objs.size:=by rw[hC];exact aaq (agf _)
 have hk:∀b o,s.heap.get? b=some o->h1.get? b=some o:=λb o k=>by
  refine Z.extBut b o (aaq (aao (Heap.lt_size k) a6)) (Heap.get?_push_of_some _ ?_);rw[Vq];exact Heap.get?_push_of_some _ k
 have hL:h1.get? L=some { cls:=.type "list",data:=.seq #[] }:=by
  refine Z.extBut L _ (by lia) (Heap.get?_push_of_some _ ?_);rw[Vq,eD];exact Heap.get?_push_size _ rfl
 have a5:tn 0 h1:=T.keep _ _ _ st λb _ o k=>hk b o k;obtain⟨W,⟨m0,w0⟩,a8⟩:=rd L (I.hok.fresh (by lia));have a0:codeAny (model X.prog X.w) X.A (.compLoop (.ListComp e [(.Tuple [.Name x p,.Name qual apos] n tp,iter,v,0)] scope pos) 0 (.ref a) (.ref L) (compEnvC scope y N.objs.size X.env)) (RR (.ref L) N.objs.size) { s with heap:=h1,toks:=s.toks+([]:List (Str×Value)).length }:=by
  refine Ez (λG s'=>∃i ys U S H',Inv (bJ X (x::qual::D.map (·.1)) scope y N.objs.size s H j) [] (U::S::fD D σ) H' s'/\tn i s'.heap/\(∀b∈j,H' b=none)/\W i G ys H') ?_ m0
   (0,[],none,none,_,I.comp2 R hf a3 (by lia) (by lia) b6 hk a2 hL,a5,λb O=>?_,w0)
  ·rintro G s3 ⟨i,ys,U,S,H3,I3,a4,Vy,w3⟩;have V2:∀{H':Hp}{pi:List (Addr×Obj)},(∀b∈j,H' b=none)->(∀f∈pi,f.1∉j) -> ∀b∈j,gK (bJ X (x::qual::D.map (·.1)) scope y N.objs.size s H j) pi H' b:=λ{H' pi} hn hp b O=>by
    obtain⟨f0,f1,f2,f3,f4,f5⟩:=hf b O;refine(hn b O,?_,λqual=>?_,.inl O,λM c k=>f4 M c (R.o.cls M c k),λf b4 qual=>?_)
    ·exact aaq (aao (a3 b O) a6)
    ·rcases aaH.mp (I.stkSub b qual)with q|q
     ·exact f1 q
     ·exact f2 q
    ·exact hp f (by simpa [bJ]using b4) (by rw[qual];exact O)
   have clear:∀{α:Type}{t:Sem α}{Q:α->Shared->Prop}{E':Value->Shared->Prop}{s:Shared},wpAny (model X.prog X.w) X.A t Q (λ_ _=>False) s->wpAny (model X.prog X.w) X.A t Q E' s:=λh=>wpAny_mono h (λ_ _ qual=>qual) λ_ _ qual=>qual.elim;rcases a8 i G ys H3 w3 with ⟨a9,qf⟩|⟨go,b0⟩
   ·refine S5 (T.done (bJ X (x::qual::D.map (·.1)) scope y N.objs.size s H j) rfl rfl rfl hc i [] s3 _ H3 _ I3 (V2 Vy (by simp)) a4 a9) λr s4 ⟨hr,I4⟩=>?_;subst hr;obtain⟨m4,Xu,_⟩:=id I4.loc;refine b5 L _ s4 H3 m4 (I.comped hf I4) Xu ?_ qf;have gC:s.heap.objs.size<=N.objs.size:=by lia
    exact I.fpOk gC I4.free
   ·refine clear (S5 (T.item (bJ X (x::qual::D.map (·.1)) scope y N.objs.size s H j) rfl rfl rfl hc i [] s3 _ H3 (λ_ _=>False) I3 (V2 Vy (by simp)) a4 go) λr s4 ⟨u,hr,h4⟩=>?_);subst hr;refine clear (S5 h4 λ_ s5 ⟨l,H5,I5,r5,y5,UG,WN⟩=>?_);have WP:=I5.pinned (V2 WN (by simp)) (T.obj _ _ UG);obtain⟨F,v1,v2,ev,b3,q6⟩:=b0 l _ y5;subst ev;have hg:PG (bJ X (x::qual::D.map (·.1)) scope y N.objs.size s H j) (.Tuple [.Name x p,.Name qual apos] n tp) (Rh X.K 2 (JH (fJ 0) (JH (fJ 1) Rp))):=
     lr hc (bV (mK (i:=0) R.nd rfl (agG (lookup_relabel_local R.o.hx)) (ahs (lookup_relabel_local R.o.hx))) (bV (mK (i:=1) R.nd rfl (agG (lookup_relabel_local R.hz)) (ahs (lookup_relabel_local R.hz))) ji))
    refine clear (S5 (hg _ s5 (U::S::fD D σ) H5 (.ref F) u (λ b1 N=>b1=some v1::some v2::fD D σ/\N=H5) WP r5 (F,[v1,v2],rfl,b3,rfl,v1,[v2],rfl,v2,[],rfl,rfl,(show _/\_ from (rfl,rfl)))) λ_ s6 ⟨b9,H6,I6,e6,e7⟩=>?_);subst e6 e7;have P:∀{H7:Hp}{s7:Shared}{U S:Option V}{zs:List V}{Y:Nat},Inv (bJ X (x::qual::D.map (·.1)) scope y N.objs.size s H j) ([]++qj j s5.heap) (U::S::fD D σ) H7 s7->Y<G->W (i+1) Y zs H7 ->
      ∃m,m<G /\ ∃i ys U S H',Inv (bJ X (x::qual::D.map (·.1)) scope y N.objs.size s H j) [] (U::S::fD D σ) H' s7/\tn i s7.heap/\(∀b∈j,H' b=none)/\W i m ys H':=λ{H7 s7 U S zs Y} I7 hm w7=>by
     refine(Y,hm,i+1,zs,U,S,H7,I7.ξ,T.keep _ _ _ UG λb O o k=>(I7.pin (pq b o) (aav _ (aav _ (fP O k)))).1,λb O=>?_,w7);obtain⟨o,k,d⟩:=T.obj _ _ UG b O;exact(I7.pin (pq b o) (aav _ (aav _ (fP O k)))).2.1
    refine clear (S5 (ht N.objs.size s H j _ s6 _ H6 _ I6 q6) λok s7 ⟨H7,I7,q7⟩=>?_);cases ok with
    | false =>
     obtain⟨Y,hm,w7⟩:=(show ∃Y,Y<G/\W (i+1) Y ys H7 from q7);exact P I7 hm w7
    | true =>
     refine clear (S5 (he N.objs.size s H j _ s7 _ H7 _ I7 q7) λxv s8 ⟨M,H8,I8,r8,Yq,b2,Y,hm,w8⟩=>?_);refine clear (S5 (bZ _ s8 _ H8 (.ref L) [M] (.ref L) [xv] (λ_ H9=>H9=upd H8 L (.lst (ys++[M]))) I8 rfl (.cons r8 .nil) (L,ys,M,rfl,rfl,Yq,b2,rfl)) λ_ s9 ⟨_,H9,I9,_,e9⟩=>?_);subst e9;exact P I9 hm w8
  ·rw[aH (by rw[eD];exact aaq (a3 b O))];exact(hf b O).1
 exact codeAny_compStart_list a0 (T.self _ 0 _ _ _ a5 a0)
theorem Ex{x :Str}{F pos:Pos}{iter:Expr}{J:It}{G:Nat->Heap->Prop}
  {RR:Value->Addr->Result->Shared->Prop}{E:Value->Shared->Prop}(I:Inv X π σ H s)(hc:X.calm=true)(K0:pH X x qual D scope y)(T:Turn X.prog X.w X.K (.Tuple [.Name x p,.Name qual apos] n F) J j a G)(st:G 0 s.heap)(Y:∀b∈j,gK X π H b)
  (Z:∀C U t TV,PE (bJ X (x::qual::D.map (·.1)) scope y C U t TV) e ta)(V:yK X.K J (fD D σ) ta B H)
  (u:∀f C r H' m,Inv X π σ H' r->r.heap.Ns C m->gK X π H' C->B f H'->RR (.ref f) C (.ok .next) r):
  wpAny (model X.prog X.w) X.A (newList []) (λl S=>wpAny (model X.prog X.w) X.A (newFunctionEnv scope X.env.globals y [] X.env.qual none .none (some X.env)) (λk R =>
   codeAny (model X.prog X.w) X.A (.compStart (.ListComp e [(.Tuple [.Name x p,.Name qual apos] n F,iter,[],0)] scope pos) 0 (.ref a) l { k with scope:=relabel scope X.env }) (RR l k.locals) R) E S) E s:=
 rN I hc K0 T st Y (λ_ _ _ _=>fU) Z (λf hD=>by
  obtain⟨W,N,o⟩:=V f hD;refine(W,N,λi m L t M=>?_);rcases o i m L t M with h|⟨go,q⟩
  ·exact .inl h
  ·refine .inr (go,λv H2 g=>?_);obtain⟨d,P,O,c,Q,h⟩:=q v H2 g;exists d,P,O,c,Q;unfold Kl
   set_option simprocs false in dsimp only
   rw[if_pos rfl];exact h) u
def Hk(K:PySem.W.Frag)(a:List (Str×Nat))(b:TE)(σ:St)(Q:VK):It->Hp->Prop:=λJ c=>yK K J (fD a σ) b (λD d=>Q (.ref D) d) c
def QT(K:PySem.W.Frag)(b:TI)(a:List (Str×Nat))(c:TE):TE:=λ σ H Q=>b σ H (Hk K a c σ Q)
theorem Be{i:Nat}{y x :Str}{t j pos f:Pos}{R:List (Str×Addr)}{iter:Expr}{M:TI}(hN:X.N.Nodup)(WW:X.N[i]?=some y)(P:X.env.scope.names.lookup y=some .local)(hc:X.calm=true)
  (u:pH X x qual D scope R)(hi:PI X (.Tuple [.Name x p,.Name qual apos] n t) iter M)
  (he:∀C O H1 TV,PE (bJ X (x::qual::D.map (·.1)) scope R C O H1 TV) e ta)
  (F:swapsWith (.ListComp e [(.Tuple [.Name x p,.Name qual apos] n t,iter,[],0)] scope pos) (some (.Name y j)) f.line X.env=pure true:=by rfl)(W:∀x,foldedSetIterable iter X.env x=pure x:=by intro _;rfl):
  PS X (.Assign [.Name y j] (.ListComp e [(.Tuple [.Name x p,.Name qual apos] n t,iter,[],0)] scope pos) f) (HB (QT X.K M D ta) (fJ i)):=by
 intro π s σ H S I h;rw[exec_Assign_Name_used _ _ _ _ F];refine wpAny_bind (wpAny_standAt (wpAny_bind ?_));show wpAny _ X.A (do let _ <-comprehension (.ListComp e [(.Tuple [.Name x p,.Name qual apos] n t,iter,[],0)] scope pos) scope X.env _ (newList []) false (eval iter X.env) (some (assign (.Name y j) X.env))) _ _ s;refine wpAny_bind (wpAny_mono (wpAny_comprehension_free (use:=some (assign (.Name y j) X.env)) (Q:=λ_ k=>SP X π S .next k) rfl W u.o.clos u.o.kind u.o.names
  (S5 (hi π s σ H _ I h) λv O h1=>S5 h1 λa0 s2 h2=>?_)) (λ_ k Y=>wpAny_pure (wpAny_pure Y)) λ_ _ c=>c)
 obtain⟨it,fp,tn,J,H2,c,I2,T,B,f2,V⟩:=h2;subst c;refine Ex (RR:=λL C=>compPost (model X.prog X.w) X.A X.xe (some (assign (.Name y j) X.env)) (λ_ k=>SP X π S .next k) L C) I2 hc u T B f2 he V ?_;intro d C k H' m I' Z g q;show wpAny _ X.A (assign (.Name y j) X.env (.ref d)) _ _ _;refine wpAny_assign_Name (mR (v:=.ref d) I' hN WW (.inl P) rfl (λE WX ch=>(m,?_,λG r=>?_)) (.inr P))
 ·obtain⟨a,U,l⟩:=ch;refine Z.sameBut U λqual=>?_;rcases l with l|l
  ·exact g.2.1 (qual.trans l)
  ·exact g.2.2.2.2.1 _ a l qual.symm
 ·exact(_,H',WX.turned (h':=G) (t':=E.toks) (λb o hb c=>r.extBut b o hb c) g.1 g.2.1 g.2.2.2.1 g.2.2.2.2.1 g.2.2.2.2.2,q)
end
section
end
end L2
namespace Tw
theorem Fb{a:Addr}{l:L2.St}(R:Nat->Int->Prop)(I:My K H a (d.map V.int))(L:d.length<sizeLine)
  (J:∀(i:Nat) (b:Int) (H':Hp) (Q:VK),d[i]?=some b->aO H H'->(∀m r,R i m->aO H' r->Q (.int m) r)->ta (some (.int (i:Int))::some (.int b)::l) H' Q)
  (q:∀D H' (f:List Int),H D=none->aO H H'->H' D=some (.lst (f.map V.int))->f.length=d.length->(∀i m,f[i]?=some m->R i m)->B D H'):yK K (V1 K a) l ta B H:=by
 intro D w;exists λi m t s=>m=d.length - i/\i<=d.length/\aO H s/\s D=some (.lst t) /\ ∃f:List Int,t=f.map V.int/\f.length=i /\ ∀i m,f[i]?=some m->R i m,(_,rfl,aaK _,az w _,au,[],rfl,rfl,λi m e=>by cases e);rintro i m t s ⟨rfl,M,o,k,f,rfl,x,E⟩;have g:=o.seq I;by_cases h:i<d.length
 ·have C:d[i]?=some d[i]:=aad h;have A:(d.map V.int)[i]?=some (.int d[i]):=by
   rw[aah,C];rfl
  refine .inr ((_,_,g,A),λv r y=>?_);obtain⟨p,y,F,rfl,rfl,e⟩:=y;have e:=e _ g;rw[A]at e;cases e;have u:=az F (.tup [.int (i:Int),.int d[i]]);exists p,_,_,rfl,S7.of au;refine J i d[i] _ _ C (o.trans u) λm r G z=>(z _ _ (u _ _ k),?_,d.length - (i+1),by lia,rfl,h,?_,au,f++[m],?_,?_,?_)
  ·rw[aaa];lia
  ·exact bK (o.trans (u.trans z)) w _
  ·rw[aal];rfl
  ·rw[aaf,x];rfl
  ·intro j n e;rcases aas j f.length with c|c
   ·rw[aaw c]at e;exact E j n e
   ·rw[aaz c]at e;have:j - f.length=0:=by
     have:=(aab.mp e).1;simp at this;lia
    rw[this]at e;cases e;have:j=i:=by lia
    subst this;exact G
 ·have e:i=d.length:=by lia
  exact .inl ((_,g,by rw[aaa,e];exact aac _),q D s f w o k (by lia) E)
theorem yo{a:Addr}{f:L2.St}{tt:TT}(g:Int->Int)(o:My K H a (d.map V.int))(r:d.length<sizeLine)
  (k:∀(z:Int) (H':Hp) (Q:Bool->Hp->Prop),Q true H'->tt (some (.int z)::f) H' Q)(p:∀(z:Int) (H':Hp) (Q:VK),z∈d->aO H H'->Q (.int (g z)) H'->ta (some (.int z)::f) H' Q)
  (q:∀D,H D=none->B D (upd H D (.lst ((d.map g).map V.int)))):j7 (Vx K a) f tt ta B H:=by
 intro D j;exists λi m h n=>m=d.length - i/\i<=d.length/\h=((d.take i).map g).map V.int/\n=upd H D (.lst h),(_,rfl,aaK _,rfl,rfl);rintro i m h n ⟨rfl,s,rfl,rfl⟩;have c:My K (upd H D (.lst (((d.take i).map g).map V.int))) a (d.map V.int):=(az j _).seq o;by_cases b:i<d.length
 ·have l:(d.map V.int)[i]?=some (.int d[i]):=by
   rw[aah,aad b];rfl
  refine .inr ((_,_,c,l),λv t y=>?_);obtain⟨rfl,y⟩:=y;have e:=y _ c;rw[l]at e;cases e;refine k _ _ _ ?_;rw[if_pos rfl];refine p _ _ _ (abX b) (az j _) (au,?_,d.length - (i+1),by lia,rfl,b,?_,?_)
  ·rw[aaa,aaa,aaI];lia
  ·rw[abW,aad b,aal,aal];rfl
  ·rw[oH]
 ·have e:i=d.length:=by lia
  subst e;rw[ago];rw[ago]at c;exact .inl ((_,c,by rw[aaa];exact aac _),q D j)
end Tw
namespace L2
open PySem.Spec PyProof.Rows PySem.W
structure o7 where
 qual:Str
 params:Arguments
 body:Expr
 scope:Scope
 ps:List Str
 xs:List Str
def lamOf(st:Stmt)(c:Str)(ps xs:List Str):o7:=match st with
 | .Return (some (.Lambda a b d _)) _=>(c,a,b,d,ps,xs)
 | _=>(c,ν st,.Name "" (0,0,0,0),δ st,ps,xs)
def cj:Stmt->Pos
 | .Return (some (.Lambda _ _ _ p)) _=>p
 | _=>(0,0,0,0)
structure eO(H:Hp)(f:Addr)(c:o7)(cs:List Addr)(Tc:List V):Prop where
 ex:∃(cd:Addr) (pm ctv:Value) (oc:Obj) (vs:Array Value) (t:Tok),H f=some (aM f (kla_obj "<lambda>" c.qual c.params c.body c.scope (c.xs.zip cs) pm cd ctv))/\H cd=some (aM cd oc)/\oc.data=.fields vs/\vs[1]?=some (.str c.qual t)
 cells:∀(i:Nat) (a:Addr),cs[i]?=some a -> ∃(co:Obj) (v:V) (u:Value),Tc[i]?=some v/\H a=some (aM a co)/\co.data=.cell (some u)/\RelV v u
 nd:cs.Nodup
 len:cs.length=c.xs.length
 lenV:Tc.length=c.xs.length
theorem eO.same{H':Hp}{f:Addr}{c:o7}{cs:List Addr}{Tc:List V}(h:eO H f c cs Tc)(s:∀b o,H b=some (aM b o)->H' b=some (aM b o)):eO H' f c cs Tc:=by
 obtain⟨⟨B,k,g,l,j,t,w,r,q,p⟩,n,m,d,lenV⟩:=h;refine((B,k,g,l,j,t,s _ _ w,s _ _ r,q,p),λi a e=>?_,m,d,lenV);obtain⟨A,v,u,z,y,x⟩:=n i a e;exact(A,v,u,z,s _ _ y,x)
structure oN(N:List Str)(c:o7):Prop where
 kind:c.scope.kind=.function
 co:c.scope.isCoroutine=false
 gen:c.scope.isGenerator=false
 ρ:∀x∈c.scope.names,x.2 ≠ .cell
 pre:N.take (c.ps.length+c.xs.length)=c.ps++c.xs
 nd:N.Nodup
 Vn:∀n∈c.ps,c.scope.names.lookup n=some .local
 fr:∀x∈c.scope.names,x.2=.free->x.1∈c.xs
 Ys:∀n∈c.xs,c.scope.names.lookup n≠some .local
section
variable{P:Program}{c:o7}{cs:List Addr}{Tc vs:List V}{us:List Value}{k:Nat}{Q:VK}{E:XK}
theorem Nm(S:oN N c)(hr:dX (k+1) A)(d:EY P w K mg base A outer s H)(ca:eO H f c cs Tc)(hb:∀(cl:List (Str×Addr)) (pm l W:Value),bindArgs (kla_fn "<lambda>" c.qual c.params c.body c.scope cl pm l W) (us,[])=pure (c.ps.zip us))(r:Vals vs us)(hl:vs.length=c.ps.length)
  (X:∀l:Addr,dX k (A.deeper (envX c.qual c.scope s.heap.objs.size f (.ref l) (c.xs.zip cs))) -> ∃t,PE (sU P w K mg base N c.qual c.scope f (.ref l) (c.xs.zip cs) A outer s (hide H cs)) c.body t/\t (start N (vs++Tc)) (hide H cs) λv H'=>Q v (over H cs H')):
  codeAny (model P w) A (.call (.ref f) (us,[])) (CR S6 outer P w H s Q E) s:=by
 obtain⟨⟨l,pm,W,oc,ws,tk,h1,h2,h3,h4⟩,hc,nd,a1,lenV⟩:=ca;have Y:∀a∈cs,∃o,H a=some (aM a o):=λa G=>by
  obtain⟨i,C⟩:=abk G;obtain⟨R,v,u,_,e,_⟩:=hc i a C;exact(R,e)
 have a0:s.heap.NoLimit:=d.mod.nolimit.keeps λb o e=>(d.bs b o e).1;have Wj:c.ps.Nodup:=by
  have:c.ps.Sublist N:=by
   have h:(c.ps++c.xs).Sublist N:=by rw[<-S.pre];exact agv _ _
   exact(ahF _ _).trans h
  exact S.nd.sublist this
 have Yt:c.xs.Nodup:=by
  have:c.xs.Sublist N:=by
   have h:(c.ps++c.xs).Sublist N:=by rw[<-S.pre];exact agv _ _
   exact(ahD _ _).trans h
  exact S.nd.sublist this
 have a6:c.ps.length+c.xs.length<=N.length:=by
  have:=congrArg af7 S.pre;rw[aaI,aaf]at this;lia
 refine kla_callFunE hr.depth (cV d.hok h1) rfl S.co S.gen rfl (l,oc,ws,tk,rfl,cV d.hok h2,h3,h4) ?_;rw[hb];refine wpAny_pure (wpAny_newFunctionEnv S.ρ (λy m=>S.Vn _ (agK m).1) (λh0 a2 U=>(a0.fresh _ U,?_)) S.kind);show codeAny _ _ (.expr c.body (envX c.qual c.scope s.heap.objs.size f (.ref l) (c.xs.zip cs))) _ _;have Z:∀b o,s.heap.get? b=some o->h0.get? b=some o:=λb o e=>U.extBut b o (aaq (Heap.lt_size e)) (Heap.get?_push_of_some _ e);refine kla_codeExpr ?_;obtain⟨t,ht,hq⟩:=X l (hr.deeper _);have B:=Gn d.hok Y;have I:Inv (sU P w K mg base N c.qual c.scope f (.ref l) (c.xs.zip cs) A outer s (hide H cs)) [] (start N (vs++Tc)) (hide H cs) { s with heap:=h0,toks:=s.toks+(c.ps.zip us).length }:=by
  refine((d.mod,S.kind,rfl,rfl,aac _,λy z b h g=>?_,λy m=>?_,λy b h _=>absurd h aar,λ_=>hr.hd,Around.frames_deeper d.frames,.inr (rfl,rfl),λb z=>absurd (show b∈([]:List Addr)from z) (by simp),λb o e=>((d.bs b o e).1,?_),d.U4,λb _ _ z=>absurd (show b∈([]:List Addr)from z) (by simp),λb z=>absurd (show b∈([]:List Addr)from z) (by simp),d.funs,λb a4=>?_),
   rfl,d.bare,Un.kept Z,(_,a2,λi y v h g h7=>?_),λy b h=>?_,B.fresh (aac _),λy b h=>?_,λp x=>absurd (show p∈([]:List (Addr×Obj))from x) (by simp),B.kept Z,?_)
  ·obtain⟨i,i1,F⟩:=cP h;obtain⟨j,j1,j2⟩:=cP g;have:=(ail (aab.mp F).1 nd).mp (F.trans j2.symm);subst this;exact aap (i1.symm.trans j1)
  ·have m:c.scope.names.lookup y=some .cell\/c.scope.names.lookup y=some .free:=m;rcases m with m|m
   ·exact absurd rfl (S.ρ _ (PySem.mem_of_lookup m))
   ·exact yH a1 (S.fr _ (PySem.mem_of_lookup m) rfl)
  ·have n:=(d.bs b o e).2;show hide H cs b=none;rw[bx]
   ·exact n
   ·intro z;obtain⟨o',O⟩:=Y b z;rw[n]at O;cases O
  ·have n:=d.Vh b a4;show hide H cs b=none;rw[bx]
   ·exact n
   ·intro z;obtain⟨o',O⟩:=Y b z;rw[n]at O;cases O
  ·have C:i<(vs++Tc).length:=by
    unfold start at g;by_cases C:i<(vs++Tc).length
    ·exact C
    ·rw[aaz (by simpa using C)]at g;rw[agh]at g;split at g <;> cases g
   have G:(vs++Tc)[i]?=some v:=by
    unfold start at g;rw[aaw (by simpa using C),aah]at g;cases e:(vs++Tc)[i]? with
    | none=>rw[e]at g;cases g
    | some a=>rw[e]at g;cases g;rfl
   rw[aaf]at C;have x:(c.ps++c.xs)[i]?=some y:=by
    rw[<-S.pre,afA (by lia)];exact h
   by_cases a3:i<vs.length
   ·rw[aaw a3]at G;rw[aaw (by lia)]at x;obtain⟨u,hu,M⟩:=r.get G;exact(u,M,.inl (S.Vn y (aag x),Gj Wj x hu))
   ·rw[aaz (by lia)]at G;rw[aaz (by lia),<-hl]at x;have hj:i - vs.length<cs.length:=by
     have:=(aab.mp x).1;lia
    obtain⟨b,WY⟩:∃b,cs[i - vs.length]?=some b:=(_,aad hj);obtain⟨R,v',u,q1,q2,q3,q4⟩:=hc _ b WY;rw[G]at q1;cases q1;have D:c.scope.names.lookup y=some .free:=by
     rcases h7 with q|q|q
     ·exact absurd q (S.Ys y (aag x))
     ·exact absurd rfl (S.ρ _ (PySem.mem_of_lookup q))
     ·exact q
    exact(u,q4,.inr (.inr D,b,Dz Yt x WY,R,Z _ _ (cV d.hok q2),q3))
  ·obtain⟨i,i1,F⟩:=cP h;obtain⟨R,v',u,q1,q2,q3,q4⟩:=hc _ b F;exact(_,R,Z _ _ (cV d.hok q2),q3)
  ·obtain⟨i,i1,F⟩:=cP h;exact mW (aag F)
  ·unfold start;show _=N.length;rw[aaf,aaa,abt,aaf];lia
 have a5:∀{L:Shared}{T:St}{H':Hp}{v:V}{u:Value},Inv (sU P w K mg base N c.qual c.scope f (.ref l) (c.xs.zip cs) A outer s (hide H cs)) [] T H' L->RelV v u->Q v (over H cs H')->CE outer P w H s Q u L:=λ{L T H' v u} J M q=>by
  obtain⟨k1,k2⟩:=GJ d.hok J.hok Y d.Vh J.base;exact(v,over H cs H',J.os,J.bare,k2,k1,M,q)
 refine wpAny_mono (ht [] _ (start N (vs++Tc)) (hide H cs) _ I hq) (λu L hs=>?_) λe L hs=>False.elim hs;obtain⟨v,H',J,M,q⟩:=hs;exact a5 J M q
end
section
variable{P:Addr}{params:Arguments}{body:Expr}{clos:List (Str×Addr)}{pos:Pos}
theorem Ke{M:Model}{A:Around}{E:Value->Shared->Prop}{Q:Value->Shared->Prop}(I:Inv X π σ H s)(bm:BMain X.mg X.base)(r:X.env.code=.ref c)(C:CodeHd X.base c P)(hT:TabAt H P pos qual)(V:closureFor scope X.env=pure clos)
  (h:∀(fi B:Addr) (pm f:Value) (i:Obj) (y:Array Value) (t:Tok) (K:Hp) (s1:Shared),Inv X π σ K s1->H fi=none->(∀b o,H b=some o->b≠P->K b=some o)->TabAt K P pos qual ->
   K fi=some (aM fi (kla_obj name qual params body scope clos pm B f))->K B=some (aM B i)->i.data=.fields y->y[1]?=some (.str qual t)->Q (.ref fi) s1):
  wpAny M A (makeFunction name qual params (.expr body) scope X.env [] [] [] pos n) Q E s:=by
 obtain⟨m,l,p,O⟩:=hT;have x:s.heap.get? P=some (tabObj m):=I.hok P _ l;have G:=I.mod.glob.keeps I.bk;obtain⟨bm,ob,b1,b2,b3,b4,b5,b6⟩:=bm;have S:=I.bk _ _ b3;have a2:mainGlobals≠P:=λq=>by
  obtain⟨o,es,ep,e,hd,_⟩:=G;rw[q,x]at e;cases e;cases hd
 have a3:bm≠P:=λq=>by
  rw[q,x]at S;cases S;cases b4
 have a4:bm≠mainGlobals:=λq=>by
  obtain⟨o,es,ep,e,hd,_⟩:=G;rw[q,e]at S;cases S;rw[hd]at b6;cases b6
 have W0:s.heap.BuiltinsAt X.mg P:=(bm,ob,b1,b2,a4,a3,S,b4,b5,b6);rcases O with U|⟨B,i,y,t,hf,W,hd,R⟩
 ·refine kla_makeFunction (mg:=X.mg) V I.ok.glob G r (C.keeps I.bk) x p U a2 W0 λa f g tk hx v N Y a0=>?_;obtain⟨c2,i,y,t,e2,a1,hd,R⟩:=Y;cases e2;have nc:H a=none:=I.hok.fresh v;have J:H g.objs.size=none:=I.hok.fresh (adh v (adi N));have Yu:P≠a:=aJ l nc;have Yv:P≠g.objs.size:=aJ l J;have Yw:a≠g.objs.size:=aaq N
  have k1:∀b,b≠P->b≠a->b≠g.objs.size->upd (upd (upd H P (.Tf (m ++ #[rawInt pos.line,rawInt pos.col,.ref a]))) a (aM a i)) g.objs.size (aM g.objs.size (kla_obj name qual params body scope clos ((X.mg "__name__").getD .none) a f)) b=H b:=λb e1 e2 e3=>by
   rw[aH e3,aH e2,aH e1]
  have k:∀b o,H b=some o->b≠P->upd (upd (upd H P (.Tf (m ++ #[rawInt pos.line,rawInt pos.col,.ref a]))) a (aM a i)) g.objs.size (aM g.objs.size (kla_obj name qual params body scope clos ((X.mg "__name__").getD .none) a f)) b=some o:=λb o e n=>by
   rw[k1 b n (aJ e nc) (aJ e J)];exact e
  have kP:upd (upd (upd H P (.Tf (m ++ #[rawInt pos.line,rawInt pos.col,.ref a]))) a (aM a i)) g.objs.size (aM g.objs.size (kla_obj name qual params body scope clos ((X.mg "__name__").getD .none) a f)) P=some (.Tf (m ++ #[rawInt pos.line,rawInt pos.col,.ref a])):=by
   rw[aH Yv,aH Yu,au]
  have kc:upd (upd (upd H P (.Tf (m ++ #[rawInt pos.line,rawInt pos.col,.ref a]))) a (aM a i)) g.objs.size (aM g.objs.size (kla_obj name qual params body scope clos ((X.mg "__name__").getD .none) a f)) a=some (aM a i):=by
   rw[aH Yw,au]
  have kf:upd (upd (upd H P (.Tf (m ++ #[rawInt pos.line,rawInt pos.col,.ref a]))) a (aM a i)) g.objs.size (aM g.objs.size (kla_obj name qual params body scope clos ((X.mg "__name__").getD .none) a f)) g.objs.size=some (aM g.objs.size (kla_obj name qual params body scope clos ((X.mg "__name__").getD .none) a f)):=au
  generalize upd (upd (upd H P (.Tf (m ++ #[rawInt pos.line,rawInt pos.col,.ref a]))) a (aM a i)) g.objs.size (aM g.objs.size (kla_obj name qual params body scope clos ((X.mg "__name__").getD .none) a f))=K at *
  have j:∀b o,s.heap.get? b=some o->b≠P->(g.push (kla_obj name qual params body scope clos ((X.mg "__name__").getD .none) a f)).get? b=some o:=λb o e n=>Heap.get?_push_of_some _ (hx b o n e)
  have D:(g.push (kla_obj name qual params body scope clos ((X.mg "__name__").getD .none) a f)).get? P=some (tabObj (m ++ #[rawInt pos.line,rawInt pos.col,.ref a])):=Heap.get?_push_of_some _ a0
  have hl:(m ++ #[rawInt pos.line,rawInt pos.col,.ref a]).toList=m.toList++[rawInt pos.line,rawInt pos.col,.ref a]:=by simp
  refine h g.objs.size a _ f i y t K _ (I.call' (ch:=[]) rfl (λb o e n hb L=>?_,λb o e n hb L=>?_,λb o e n L=>?_,λb o e L=>?_,λb xs e=>?_,λb o u e=>?_,λb qs e=>?_) (λb u e=>?_) I.bare λb z=>absurd z (by simp)) J k (_,kP,by rw[hl];exact TriplesOk_snoc _ _ _ _ p,.inr (a,i,y,t,by rw[hl];exact codeAmong_snoc _ p U,kc,hd,R)) kf kc hd R
  ·exact j b o e λz=>by rw[z,l]at n;cases n
  ·exact(o.slots,j b o e λz=>by rw[z,l]at n;cases n)
  ·rw[k1 b (λz=>by rw[z,l]at n;cases n) (aaq (aao (Heap.lt_size e) v)) (aaq (aao (Heap.lt_size e) (adh v (adi N))))];exact n
  ·by_cases z:b=P
   ·exact(_,by rw[z];exact D)
   ·exact(o,j b o e z)
  ·exact k b _ e λz=>by rw[z,l]at e;cases e
  ·exact k b _ e λz=>by rw[z,l]at e;cases e
  ·by_cases z:b=P
   ·rw[z,l]at e;cases e;exact(_,by rw[z];exact kP)
   ·exact(#[],by rw[k b _ e z];simp)
  ·by_cases F:b=g.objs.size
   ·rw[F,kf]at e;cases e;rw[F];exact eV (Heap.get?_push_size _ rfl)
   by_cases z2:b=a
   ·rw[z2,kc]at e;cases e;rw[z2];exact eV (Heap.get?_push_of_some _ a1)
   by_cases Z:b=P
   ·rw[Z,kP]at e;cases e;rw[Z];exact D
   rw[k1 b Z z2 F]at e;refine(I.hok b u e).stay (λd o w q=>j d o q ?_) (λd q=>k d _ q ?_) λd xs q=>k d _ q ?_
   ·rcases w with rfl|w
    ·exact Z
    ·exact λz=>by rw[z,l]at w;cases w
   ·exact λz=>by rw[z,l]at q;cases q
   ·exact λz=>by rw[z,l]at q;cases q
 ·refine kla_makeFunctionHit (mg:=X.mg) V I.ok.glob G r (C.keeps I.bk) x p hf W0 λf g tk hk T=>?_;have J:H g.objs.size=none:=I.hok.fresh T
  have k:∀b o,H b=some o->upd H g.objs.size (aM g.objs.size (kla_obj name qual params body scope clos ((X.mg "__name__").getD .none) B f)) b=some o:=λb o e=>by
   rw[aH (aJ e J)];exact e
  have j:∀b o,s.heap.get? b=some o->(g.push (kla_obj name qual params body scope clos ((X.mg "__name__").getD .none) B f)).get? b=some o:=λb o e=>Heap.get?_push_of_some _ (hk b o e)
  refine h g.objs.size B _ f i y t _ _ (I.call' (ch:=[]) rfl (Un.laid j T J) (λb u e=>?_) I.bare λb z=>absurd z (by simp)) J (λb o e _=>k b o e) (m,k _ _ l,p,.inr (B,i,y,t,hf,k _ _ W,hd,R)) au (k _ _ W) hd R;by_cases F:b=g.objs.size
  ·rw[F,au]at e;cases e;rw[F];exact eV (Heap.get?_push_size _ rfl)
  rw[aH F]at e;exact(I.hok b u e).stay (λd o _ q=>j d o q) (λd q=>k d _ q) λd xs q=>k d _ q
end
section
variable{P:Program}{s0:Shared}{H0:Hp}{E:XK}{Q:VK}
theorem Ou{T:o7}{cs:List Addr}{Tc:List V}{pos :Pos}(I:Inv (gZ CX P w K mg base N qual scope f (.ref c) A outer s0 H0 E) [] σ H s)(bm:BMain mg base)(C:CodeHd base c Pt)(hT:TabAt H Pt pos T.qual)
  (hq:(envOfC qual scope s0.heap.objs.size f (.ref c)).qual ++ "<lambda>" = T.qual)
  (a5:closureFor T.scope (envOfC qual scope s0.heap.objs.size f (.ref c))=pure (T.xs.zip cs))(a4:defaultsOf T.params (envOfC qual scope s0.heap.objs.size f (.ref c))=(pq ([]) ([])))
  (S:cs.Nodup)(W:cs.length=T.xs.length)(G:Tc.length=T.xs.length)
  (W2:∀(j:Nat) (a:Addr),cs[j]?=some a -> ∃(x:Str) (m:Nat) (v:V),(envOfC qual scope s0.heap.objs.size f (.ref c)).cells.lookup x=some a/\scope.names.lookup x=some .cell/\N[m]?=some x/\σ[m]?=some (some v)/\Tc[j]?=some v)
  (hQ:∀(D:Addr) (H2:Hp),H D=none->(∀a∈cs,H a=none)->(∀b o,H b=some o->b≠Pt->H2 b=some o)->TabAt H2 Pt pos T.qual->eO H2 D T cs Tc->Q (.ref D) H2):
  wpAny (model P w) (A.deeper (envOfC qual scope s0.heap.objs.size f (.ref c))) (execs [.Return (some (.Lambda T.params T.body T.scope pos)) p] (envOfC qual scope s0.heap.objs.size f (.ref c)))
   (λfl s'=>∃u,fl=.ret u/\CE outer P w H0 s0 Q u s') (gZ CX P w K mg base N qual scope f (.ref c) A outer s0 H0 E).xe s:=by
 refine wpAny_execs_cons (wpAny_Return_some (kla_eval a4 ?_));rw[hq];refine Ke (X:=gZ CX P w K mg base N qual scope f (.ref c) A outer s0 H0 E) (n:=pos.line) I bm rfl C hT a5 λD cd pm a8 oc vs t h y F Yx R a7 a3 a6 hd hv=>?_;exists .ref D,rfl,.ref D,λb=>if b∈cs then (y.heap.get? b).map (aM b)else h b,F.os,F.bare,?_,?_,rfl
 all_goals
  have g:∀a∈cs,∃x,(envOfC qual scope s0.heap.objs.size f (.ref c)).cells.lookup x=some a:=λa i=>by
   obtain⟨j,Z⟩:=abk i;obtain⟨x,m,v,h1,_⟩:=W2 j a Z;exact(x,h1)
  have fresh:∀a∈cs,s0.heap.objs.size<=a:=λa i=>by
   obtain⟨x,M⟩:=g a i;exact F.ok.cab x a rfl M
  have Y:∀a∈cs,h a=none:=λa i=>by
   obtain⟨x,M⟩:=g a i;exact F.freeC x a M
  have k:∀b o,h b=some o->b∉cs:=λb o e z=>by
   rw[Y b z]at e;cases e
 ·have U:Un (frs outer) [] H0 h s0.heap y.heap:=F.base;refine(U.keep,U.slot,λb o e n a2=>?_,U.there,λb xs e=>?_,λb o v e=>?_,λb ps e=>?_)
  ·show (if b∈cs then _ else h b)=none;rw[if_neg (λz=>absurd (aao (Heap.lt_size e) (fresh b z)) (adK _))];exact U.free b o e n a2
  ·have r:=U.tups b xs e;show (if b∈cs then _ else h b)=_;rw[if_neg (k b _ r)];exact r
  ·have r:=U.frzs b o v e;show (if b∈cs then _ else h b)=_;rw[if_neg (k b _ r)];exact r
  ·obtain⟨O,r⟩:=U.tbls b ps e;exists O;show (if b∈cs then _ else h b)=_;rw[if_neg (k b _ r)];exact r
 ·intro b J e;have e:(if b∈cs then (y.heap.get? b).map (aM b)else h b)=some J:=e;by_cases hb:b∈cs
  ·rw[if_pos hb]at e;cases q:y.heap.get? b with
   | none=>rw[q]at e;cases e
   | some o =>
    rw[q]at e;cases e;exact eV q
  ·rw[if_neg hb]at e;refine(F.hok b J e).stay (λ_ _ _ q=>q) (λd q=>?_) λd xs q=>?_
   ·show (if d∈cs then _ else h d)=_;rw[if_neg (k d _ q)];exact q
   ·show (if d∈cs then _ else h d)=_;rw[if_neg (k d _ q)];exact q
 ·have L:∀b o,h b=some o->(λb=>if b∈cs then (y.heap.get? b).map (aM b)else h b) b=some o:=λb o e=>by
   show (if b∈cs then _ else h b)=_;rw[if_neg (k b _ e)];exact e
  refine hQ D _ Yx (λa i=>?_) (λb o e n=>L b o (R b o e n)) ?_ ((cd,pm,a8,oc,vs,t,L _ _ a3,L _ _ a6,hd,hv),λj a Z=>?_,S,W,G)
  ·obtain⟨x,M⟩:=g a i;exact I.freeC x a M
  ·obtain⟨ps,r,e2,e3⟩:=a7;exists ps,L _ _ r,e2;rcases e3 with e3|⟨a9,a1,a0,t',e4,e5,e6⟩
   ·exact .inl e3
   ·exact .inr (a9,a1,a0,t',e4,L _ _ e5,e6)
  ·obtain⟨x,m,v,h1,h2,h3,h4,h5⟩:=W2 j a Z;obtain⟨mm,_,hl⟩:=F.loc;obtain⟨J,r',l⟩:=hl m x v h3 h4 (.inr (.inl h2));have l':∃c',(envOfC qual scope s0.heap.objs.size f (.ref c)).cells.lookup x=some c'/\y.heap.IsCell c' (some J):=by
    rcases l with ⟨B,_⟩|⟨_,l2⟩
    ·have B:scope.names.lookup x=some .local:=B;rw[h2]at B;cases B
    ·exact l2
   obtain⟨c',B,co,l2,l3⟩:=l';rw[h1]at B;cases B;refine(co,v,J,h5,?_,l3,r');show (if a∈cs then (y.heap.get? a).map (aM a)else h a)=_;rw[if_pos (aag Z),l2];rfl
end
structure CK(N:List Str)(qual:Str)(scope:Scope)(T:o7)(slots:List Nat)(Uc:Addr->List Addr):Prop where
 qn:∀(L f:Addr) (c:Value),(envOfC qual scope L f c).qual ++ "<lambda>" = T.qual
 cl:∀(L f:Addr) (c:Value),closureFor T.scope (envOfC qual scope L f c)=pure (T.xs.zip (Uc L))
 d0:∀(L f:Addr) (c:Value),defaultsOf T.params (envOfC qual scope L f c)=(pq ([]) ([]))
 YB:∀L:Addr,(Uc L).Nodup
 len:∀L:Addr,(Uc L).length=T.xs.length
 fv:∀(L f:Addr) (c:Value) (j:Nat) (a:Addr),(Uc L)[j]?=some a -> ∃(x:Str) (m:Nat),(envOfC qual scope L f c).cells.lookup x=some a/\scope.names.lookup x=some .cell/\N[m]?=some x/\slots[j]?=some m
def JR(H:Hp)(g:Addr)(pos:Pos)(T:o7)(c:List Nat)(σ:St)(Q:VK):Prop:=
 TabAt H g pos T.qual /\ ∃f:List V,(∀j m:Nat,c[j]?=some m -> ∃v,σ[m]?=some (some v)/\f[j]?=some v)/\f.length=T.xs.length /\
  ∀(e:Addr) (h:List Addr) (d:Hp),H e=none->(∀a∈h,H a=none)->(∀b o,H b=some o->b≠g->d b=some o)->TabAt d g pos T.qual->eO d e T h f->Q (.ref e) d
section
variable{P:Program}{k:Nat}{T:o7}{slots:List Nat}{Uc:Addr->List Addr}{pos p1 p2:Pos}
theorem yp{A:Around}{s b:Shared}{Q:VK}{E:XK}{σ:St}(M:CK N qual (δ st) T slots Uc)(bm:BMain mg base)(C:CodeHd base c Pt)(I:Inv (gZ S6 P w K mg base N qual (δ st) f (.ref c) A outer s H E) [] σ H' b)(h:JR H' Pt pos T slots σ Q):
  wpAny (model P w) (A.deeper (envOfC qual (δ st) s.heap.objs.size f (.ref c))) (execs [.Return (some (.Lambda T.params T.body T.scope pos)) p2] (envOfC qual (δ st) s.heap.objs.size f (.ref c)))
   (λB d=>∃u,B=.ret u/\CE outer P w H s Q u d) (gZ S6 P w K mg base N qual (δ st) f (.ref c) A outer s H E).xe b:=by
 obtain⟨q,S,z,t,r⟩:=h;refine Ou (cs:=Uc s.heap.objs.size) (Tc:=S) I bm C q (M.qn _ _ _) (M.cl _ _ _) (M.d0 _ _ _) (M.YB _) (M.len _) t (λj a e=>?_) (λD U p o n l g=>r D _ U p o n l g);obtain⟨y,m,R,O,L,J⟩:=M.fv s.heap.objs.size f (.ref c) j a e;obtain⟨v,G,F⟩:=z j m J;exact(y,m,v,R,O,L,G,F)
theorem T7.makerL1{g:Stmt}(F:T7 K x qual st f fd)(S:aC N ps (δ st))(M:CK N qual (δ st) T slots Uc)(bm:BMain mg base)(e:fd.code=.ref c)(C:CodeHd base c Pt)(j:∀d H Q E,sp d H Q E->d.length=ps.length)
  (r:μ st=[g,.Return (some (.Lambda T.params T.body T.scope pos)) p2])
  (h:∀(b:Value) (A:Around) (a:List Env) (s:Shared) (H:Hp) (d:List V) (Q:VK) (E:XK),dX k (A.deeper (envOfC qual (δ st) s.heap.objs.size f b))->sp d H Q E ->
   ∃t,PS (gZ S6 P w K mg base N qual (δ st) f b A a s H E).Wg g t/\t { nx:=λ σ H'=>JR H' Pt pos T slots σ Q,rt:=λ_ _=>False } (start N d) H):aV P w K mg base S6 (k+1) f fd ps sp:=by
 obtain⟨U,R,kV,J,O,X,b,W,G,rfl,o,m⟩:=F.ex;obtain rfl:b=.ref c:=e;refine Ea o m S j λA a s H d Q E n p l I=>?_;rw[r];obtain⟨t,y,v⟩:=h _ A a s H d Q E p l;refine wpAny_execs_cons (wpAny_mono (y [] n (start N d) H _ (I.wish _) v) (λB L q=>?_) λ_ _ z=>False.elim z);cases B with
 | next =>
  obtain⟨σ,Y,D,q⟩:=q;exact yp M bm C D.unwish q
 | ret u=>obtain⟨_,_,_,_,_,z⟩:=q;exact False.elim z
 | brk=>obtain⟨_,_,_,z⟩:=q;exact False.elim z
 | cont=>obtain⟨_,_,_,z⟩:=q;exact False.elim z
theorem FP{sp:Addr->Sp}(S:oN N T)(u:∀(m:List (Str×Addr)) (l b d:Value) (j:List Value),j.length=T.ps.length->bindArgs (kla_fn "<lambda>" T.qual T.params T.body T.scope m l b d) (j,[])=pure (T.ps.zip j))
  (h:∀(f:Addr) (g:List V) (H:Hp) (Q:VK),sp f g H Q E0->g.length=T.ps.length /\ ∃cs Tc,eO H f T cs Tc /\
   ∀(b:Addr) (A:Around) (a:List Env) (s:Shared),dX k (A.deeper (envX T.qual T.scope s.heap.objs.size f (.ref b) (T.xs.zip cs))) -> ∃t,PE (sU P w K mg base N T.qual T.scope f (.ref b) (T.xs.zip cs) A a s (hide H cs)) T.body t/\t (start N (g++Tc)) (hide H cs) λv H'=>Q v (over H cs H')):
  fH P w K mg base (k+1) sp:=by
 intro f A a s H j g Q q y r n;obtain⟨p,cs,Tc,z,e⟩:=h f g H Q n;exact Nm S q y z (λm l b d=>u m l b d j (by rw[<-r.length];exact p)) r p λb o=>e b A a s o
end
section
theorem Inv.turnN{ch:List Addr}{p:Addr}{o:HO}{t':Nat}(I:Inv X π σ H s)(h:∀b∈ch,gK X π H b)
  (k:∀b u,b∉ch->s.heap.get? b=some u->h'.get? b=some u)(l:s.heap.objs.size<=p)
  (i:bB X.prog X.w (upd H p o) h' p o):Inv X π σ (upd H p o) { s with heap:=h',toks:=t' }:=by
 have y:=I.hok.fresh l;have j:∀b u,H b=some u->b∉ch:=λb u q z=>by rw[(h b z).1]at q;cases q
 have a:∀b u,H b=some u->upd H p o b=some u:=λb u q=>by rw[aH (aJ q y)];exact q
 refine I.step (g':=s.gens) (d':=s.drawn) (ch:=ch) (λb e=>?_) (λb u _ _ d q _=>k b u d q) (λb u _ _ d q _=>(u.slots,k b u d q))
  (λb u _ q n=>by rw[aH (aaq (aao (Heap.lt_size q) l))];exact n) (λb u d q=>(u,k b u d q))
  (λb t q=>a _ _ q) (λb g u q=>a _ _ q) (λb E q=>(#[],by rw[a _ _ q];simp)) (λm A=>?_) (λb u q=>?_) I.bare
 ·have f:=h b e;exact(f.2.2.2.1,f.2.1,f.2.2.2.2.1,f.2.2.2.2.2)
 ·obtain⟨g,C,D,x,r⟩:=A;exact(g,C,D,k _ g (λz=>(h _ z).2.1 rfl) x,r)
 ·by_cases e:b=p
  ·subst e;rw[au]at q;cases q;exact i
  ·rw[aH e]at q;refine(I.hok b u q).stay (λc v B r=>k c v ?_ r) (λc r=>a _ _ r) λc t r=>a _ _ r;rcases B with rfl|z
   ·exact j _ _ q
   ·exact j _ _ z
theorem Inv.turnedN{ch:List Addr}{t':Nat}(I:Inv X π σ H s)(e:∀b∈ch,gK X π H b)
  (k:∀b u,b∉ch->s.heap.get? b=some u->h'.get? b=some u):Inv X π σ H { s with heap:=h',toks:=t' }:=by
 have g:∀b u,H b=some u->b∉ch:=λb u q z=>by rw[(e b z).1]at q;cases q
 refine I.step (g':=s.gens) (d':=s.drawn) (ch:=ch) (λb l=>?_) (λb u _ _ a q _=>k b u a q) (λb u _ _ a q _=>(u.slots,k b u a q))
  (λ_ _ _ _ n=>n) (λb u a q=>(u,k b u a q))
  (λ_ _ q=>q) (λ_ _ _ q=>q) (λb w q=>(#[],by rw[q];simp)) (λm i=>?_) (λb u q=>?_) I.bare
 ·have d:=e b l;exact(d.2.2.2.1,d.2.1,d.2.2.2.2.1,d.2.2.2.2.2)
 ·obtain⟨f,o,p,h,r⟩:=i;exact(f,o,p,k _ f (λz=>(e _ z).2.1 rfl) h,r)
 ·refine(I.hok b u q).stay (λc v j r=>k c v ?_ r) (λc r=>r) λc t r=>r;rcases j with rfl|z
  ·exact g _ _ q
  ·exact g _ _ z
end
def V5(K:PySem.W.Frag)(a b:Addr):It:=
  (λi H=>∃d c x y,My K H a d/\My K H b c/\d[i]?=some x/\c[i]?=some y,
   λi H v e=>∃p x y,H p=none/\v=.ref p/\e=upd H p (.tup [x,y])/\(∀d,My K H a d->d[i]?=some x) /\ ∀c,My K H b c->c[i]?=some y,
   λi H=>∃d c,My K H a d/\My K H b c/\(d.length<=i\/c.length<=i))
structure Dw(z TI TO i1 i2:Addr):Prop where
 TIz:TI≠z
 TOz:TO≠z
 i1z:i1≠z
 i2z:i2≠z
 TITO:TI≠TO
 TIi1:TI≠i1
 TIi2:TI≠i2
 TOi1:TO≠i1
 TOi2:TO≠i2
 i12:i1≠i2
def OJ(a b z TI TO d c:Addr)(i:Nat)(h:Heap):Prop:=IsZip h z TI TO .none/\IsPair h TI (.ref d) (.ref c)/\(∃x y,IsPair h TO x y)/\h.IsListIter d a i/\h.IsListIter c b i
theorem lW{a b:Addr}{o u:Obj}(d:h'.get? a=some o)(c:h'.get? b=some u)(e:o.cls≠u.cls):a≠b:=λz=>by
 subst z;rw[d]at c;cases c;exact e rfl
theorem Dh{a b :Addr}{i:Nat}{xs ys:Array Value}(D:Dw f C S c dx)(st:OJ a b f C S c dx i h')(r:h'.IsList a xs)(q:h'.IsList b ys):ZipApart f C S c dx a b:=by
 obtain⟨l,s,⟨x,y,d⟩,⟨w,n,p,_⟩,⟨v,m,o,_⟩⟩:=st;obtain⟨u,g,k,_⟩:=r;obtain⟨t,e,j,_⟩:=q;exact(D.TIz,D.TOz,D.i1z,D.i2z,D.TITO,D.TIi1,D.TIi2,D.TOi1,D.TOi2,D.i12,
  lW g l (by rw[k];show Value.type "list" ≠ Value.type "zip";decide),lW g d (by rw[k];show Value.type "list" ≠ Value.type "tuple";decide),lW g n (by rw[k,p];decide),lW g m (by rw[k,o];decide),
  lW e l (by rw[j];show Value.type "list" ≠ Value.type "zip";decide),lW e d (by rw[j];show Value.type "list" ≠ Value.type "tuple";decide),lW e n (by rw[j,p];decide),lW e m (by rw[j,o];decide))
theorem Kc{P:Program}{w:World}(a b z TI TO F C:Addr)(D:Dw z TI TO F C):
  Turn P w K (.Tuple v n p) (V5 K a b) [z,TI,TO,F,C] z (OJ a b z TI TO F C) where
 mem:=by simp
 obj:=λi h m c U=>by
  obtain⟨r,f,⟨x,y,g⟩,⟨o1,e1,c1,d1⟩,⟨o2,e2,c2,d2⟩⟩:=m;have G:c=z\/c=TI\/c=TO\/c=F\/c=C:=by simpa using U
  rcases G with rfl|rfl|rfl|rfl|rfl
  ·exact(_,r,λd q=>by cases q)
  ·exact(_,f,λd q=>by cases q)
  ·exact(_,g,λd q=>by cases q)
  ·exact(_,e1,λd q=>by rw[d1]at q;cases q)
  ·exact(_,e2,λd q=>by rw[d2]at q;cases q)
 keep:=λi h h' m k=>by
  obtain⟨r,f,⟨x,y,g⟩,h1,M⟩:=m;exact(k z (by simp) _ r,k TI (by simp) _ f,(x,y,k TO (by simp) _ g),h1.at λo q=>k F (by simp) o q,M.at λo q=>k C (by simp) o q)
 item:=by
  intro X hP V hK U i π s σ H E I T m Z;subst hP V hK;obtain⟨xs,ys,x,y,B,A,L,hy⟩:=Z;obtain⟨b0,Xy,O,b2⟩:=I.list B;obtain⟨a9,Xz,N,b1⟩:=I.list A;obtain⟨R,b4,a7⟩:=Xy.get L;obtain⟨Q,b3,a0⟩:=Xz.get hy;have D7:=Dh D m O.isList N.isList;obtain⟨r,f,⟨v1,v2,g⟩,u,t⟩:=id m;refine wpAny_pyNext_zip_item D7 r f g u t O.isList N.isList (x:=R) (by simpa using b4) (y:=Q) (by simpa using b3) λh1 a1 a2 a3 a4 a5 a6 S=>?_;refine(_,rfl,wpAny_letOwnedTupleGo_zip a1 λM b5 l=>?_);have J:∀{c o},s.heap.get? c=some o->s.heap.objs.size≠c:=λe=>agZ (Heap.lt_size e)
  have g2:M.get? s.heap.objs.size=some { cls:=.type "tuple",data:=.seq #[R,Q] }:=(l.2 _ (J r)).trans a5
  have kk:∀b o,b∉[z,TI,TO,F,C]->s.heap.get? b=some o->M.get? b=some o:=λb o j q =>
   (l.2 b (λe=>j (by simp[e]))).trans (S b o (λe=>j (by simp[e])) (λe=>j (by simp[e])) (λe=>j (by simp[e])) (λe=>j (by simp[e])) q)
  have a8:bB X.prog X.w (upd H s.heap.objs.size (.tup [x,y])) M s.heap.objs.size (.tup [x,y]):=
   ((by show 2<=sizeLine;decide),[R,Q],.cons a7 (.cons a0 .nil),_,g2,rfl,_,rfl)
  have I2:=I.turnN (h':=M) (t':=s.toks) T kk (aac _) a8;have hn:H s.heap.objs.size=none:=I.hok.fresh (aac _);refine(.ref s.heap.objs.size,_,I2,rfl,(_,x,y,hn,rfl,rfl,λzs Y=>by rw[I.list_inj Y B];exact L,λzs Y=>by rw[I.list_inj Y A];exact hy),
   (b5,(l.2 _ D.TIz).trans (S _ _ D.TIz D.TITO D.TIi1 D.TIi2 f),(R,Q,(l.2 _ D.TOz).trans a2),a3.extBut l.extBut D.i1z,a4.extBut l.extBut D.i2z),λb j=>?_)
  have b6:b≠s.heap.objs.size:=by
   obtain⟨o1,e1,_⟩:=u;obtain⟨o2,e2,_⟩:=t;have G:b=z\/b=TI\/b=TO\/b=F\/b=C:=by simpa using j
   rcases G with rfl|rfl|rfl|rfl|rfl
   ·exact(J r).symm
   ·exact(J f).symm
   ·exact(J g).symm
   ·exact(J e1).symm
   ·exact(J e2).symm
  rw[aH b6];exact(T b j).1
 done:=by
  intro X hP V hK U i π s σ H E I T m Z;subst hP V hK;obtain⟨xs,ys,B,A,L⟩:=Z;obtain⟨b0,Xy,O,b2⟩:=I.list B;obtain⟨a9,Xz,N,b1⟩:=I.list A;have D7:=Dh D m O.isList N.isList;obtain⟨r,f,⟨v1,v2,g⟩,u,t⟩:=id m;have l1:=Xy.length;have l2:=Xz.length;refine wpAny_pyNext_zip_end (I.ok.hd U) D7 r f g u t O.isList N.isList ?_ λh' S=>(rfl,I.turnedN (t':=s.toks) T λb o j q=>S b o (λe=>j (by simp[e])) (λe=>j (by simp[e])) (λe=>j (by simp[e])) (λe=>j (by simp[e])) q);rcases L with L|L
  ·exact .inl (by simp;lia)
  ·exact .inr (by simp;lia)
 self:=λ_ _ _ _ _ m h=>wpAny_pyIter_zip m.1 h
section
inductive QL(K:PySem.W.Frag)(R:It->Hp->Prop)(vs:List V)(H1:Hp):Prop
 | mk (a b xs ys:_) (_:vs=[.ref a,.ref b]) (_:My K H1 a xs) (_:My K H1 b ys) (_:R (V5 K a b) H1)
def R6(K:PySem.W.Frag)(b:TA):TI:=λ a H R=>b a H (QL K R)
theorem DY{a b:Expr}{p pos:Pos}(W:Gl X "zip")(U:X.mg "zip" = none)(S:bootBuiltins "zip" = some (.type "zip"))(Z:PA X [a,b] t)
  (T:starEach [a,b] X.env=[(pq false (eval a X.env)),(pq false (eval b X.env))]:=by rfl)(l:starEach [b] X.env=[(pq false (eval b X.env))]:=by rfl):
  PI X (.Tuple v n apos) (.Call (.Name "zip" p) [a,b] [] pos) (R6 X.K t):=by
 intro E s C H R I h;refine Call_ (dW I W U S (PyProof.Rows.callWith_type1 (S5 (Z pos E s C H _ I h) λus f ⟨vs,L,g,M,O⟩=>?_) (by rw[T,l]) (by rw[l];rfl)));obtain⟨G,F,xs,ys,e,w,u,q⟩:=O;subst e;cases M with
 | cons r o =>
  cases o with
  | cons N o =>
   cases o;cases r;cases N;obtain⟨a1,Xy,Q,a3⟩:=g.list w;obtain⟨a0,Xz,P,a2⟩:=g.list u;refine call_zip_2 Q.isList P.isList λh' J B A y x a4 V=>?_;refine wpAny_pyIter_zip J ?_;have I2:Inv X E C L { f with heap:=h' }:=g.kept (t':=f.toks) V;have D:Dw (f.heap.objs.size+4) (f.heap.objs.size+2) (f.heap.objs.size+3) f.heap.objs.size (f.heap.objs.size+1):=by
    have k:∀d i j:Nat,i≠j->d+i≠d+j:=λd i j h=>by lia
    exact(k _ 2 4 (by decide),k _ 3 4 (by decide),k _ 0 4 (by decide),k _ 1 4 (by decide),k _ 2 3 (by decide),k _ 2 0 (by decide),k _ 2 1 (by decide),k _ 3 0 (by decide),k _ 3 1 (by decide),k _ 0 1 (by decide))
   refine(f.heap.objs.size+4,_,_,V5 X.K G F,L,rfl,I2,Kc G F _ _ _ _ _ D,(J,B,(_,_,A),y,x),λc Y=>?_,q);have m:f.heap.objs.size<=c:=by
    have z:c=f.heap.objs.size+4\/c=f.heap.objs.size+2\/c=f.heap.objs.size+3\/c=f.heap.objs.size\/c=f.heap.objs.size+1:=by simpa using Y
    rcases z with rfl|rfl|rfl|rfl|rfl
    ·exact ahh _ _
    ·exact ahh _ _
    ·exact ahh _ _
    ·exact aac _
    ·exact ahh _ _
   exact g.fpOk m (g.hok.fresh m)
end
theorem Ol{a b:Addr}{xs ys:List V}{g:TG}{o:TS}{D:Ends}{σ:St}(d:Nat->St->Hp->Prop)(C:d 0 σ H)(A:∀i σ H,i<=min xs.length ys.length->d i σ H->My K H a xs/\My K H b ys)
  (w:∀i x y σ H p,xs[i]?=some x->ys[i]?=some y->d i σ H->H p=none->g (.ref p) σ (upd H p (.tup [x,y])) λ f l=>o { D with nx:=d (i+1),ct:=d (i+1),bk:=D.nx } f l)(hd:∀σ H,d (min xs.length ys.length) σ H->D.nx σ H):
  ∃W:Nat->Nat->St->Hp->Prop,(∃m,W 0 m σ H) /\ ∀i m σ H,W i m σ H ->
   ((V5 K a b).stop i H/\D.nx σ H)\/((V5 K a b).go i H /\ ∃N:St->Hp->Prop,(∀h H',N h H' -> ∃q,q<m/\W (i+1) q h H') /\ ∀x H',(V5 K a b).Uv i H x H'->g x σ H' λ f l=>o { D with nx:=N,ct:=N,bk:=D.nx } f l):=by
 exists λi m σ H=>m=min xs.length ys.length - i/\i<=min xs.length ys.length/\d i σ H,(min xs.length ys.length,rfl,aaK _,C);rintro i m σ H ⟨rfl,B,p⟩;obtain⟨k,j⟩:=A i σ H B p;by_cases n:i<min xs.length ys.length
 ·have t:i<xs.length:=by lia
  have s:i<ys.length:=by lia
  refine .inr ((xs,ys,xs[i],ys[i],k,j,aad t,aad s),d (i+1),λ h H' r=>(min xs.length ys.length - (i+1),by lia,rfl,n,r),λx H' y=>?_);obtain⟨c,x,y,z,F,E,v,u⟩:=y;subst F E;exact w i x y σ H c (v xs k) (u ys j) p z
 ·have e:i=min xs.length ys.length:=by lia
  subst e;exact .inl ((xs,ys,k,j,by lia),hd σ H p)
end L2
namespace Tw
def brk:List Int->Int->List Int
 | [],u=>aaB u.toNat 0
 | d::r,u=>aaB (u - d).toNat 0++1::brk r (d+1)
def Dp:List Int->Int->Prop
 | [],u=>0<=u
 | d::r,u=>0<=d/\d<=u/\Dp r (d+1)
theorem Dp.pos:∀{l:List Int}{u:Int},Dp l u->0<=u
 | [],_,h=>h
 | _::_,_,h=>Int.le_trans h.1 h.2.1
theorem jP:∀{l:List Int}{u:Int},Dp l u->(brk l u).length=u.toNat+2*l.length
 | [],u,_=>by simp[brk]
 | d::r,u,h=>by
  have:=jP h.2.2;have b:=h.1;have a:=h.2.1;simp only[brk,aaf,abt,aaY,this];lia
theorem CN{l:List Int}{u x:Int}{t:List Int}(h:Dp l u)(e:brk l u=x::t):
  (x=0/\1<=u/\t=brk l (u - 1)/\Dp l (u - 1)) \/ ∃r,l=u::r/\x=1/\t=brk r (u+1)/\Dp r (u+1):=by
 cases l with
 | nil =>
  have i:0<=u:=h;rcases ahC 0 u with z|z
  ·refine .inl ?_;have c:u.toNat=(u - 1).toNat+1:=by lia
   simp only[brk]at e ⊢;rw[c,afB]at e;injection e with b a
   exact(b.symm,z,a.symm,show 0<=u - 1 by lia)
  ·have:u.toNat=0:=by lia
   simp only[brk]at e;rw[this]at e;cases e
 | cons d r =>
  obtain⟨g,j,f⟩:=h;rcases ahC d u with z|z
  ·refine .inl ?_;have c:(u - d).toNat=(u - 1 - d).toNat+1:=by lia
   simp only[brk]at e ⊢;rw[c,afB,af5]at e;injection e with b a
   exact(b.symm,by lia,a.symm,g,by lia,f)
  ·have:u=d:=by lia
   subst this;refine .inr (r,rfl,?_);simp only[brk]at e;rw[Int.sub_self]at e;injection e with b a
   exact(b.symm,a.symm,f)
theorem Oi{l:List Int}{u:Int}(h:Dp l u)(e:brk l u=[]):l=[]/\u=0:=by
 have:=jP h;rw[e]at this;have a:=h.pos;cases l with
 | nil =>
  exists rfl;have:0=u.toNat+2*0:=this;lia
 | cons d r =>
  rw[aaY]at this;have:0=u.toNat+2*(r.length+1):=this;lia
def gj(ds:List Int):Prop:=ds[0]?=some 0 /\ ∀i x y,ds[i]?=some x->ds[i+1]?=some y->1<=y/\y<=x+1
theorem O2:∀(r:List Int) (a:Int),(∀(i:Nat) (x y:Int),(a::r)[i]?=some x->(a::r)[i+1]?=some y->1<=y/\y<=x+1)->0<=a->Dp r (a+1)
 | [],a,_,b=>by show 0<=a+1;lia
 | d::r,a,h,b=>by
  have f:=h 0 a d rfl rfl;exact(by lia,f.2,O2 r d (λi x y e c=>h (i+1) x y e c) (by lia))
theorem gj.dp{ds:List Int}(h:gj ds):Dp ds 0:=by
 cases ds with
 | nil=>exact absurd h.1 (by simp)
 | cons d r =>
  have:d=0:=by
   have:=h.1;exact aap this
  subst this;exact(by decide,by decide,O2 r 0 h.2 (by decide))
theorem gj.one{ds:List Int}(h:gj ds){i:Nat}(b:0<i)(hd:ds[i]?=some m):1<=m:=by
 obtain⟨j,rfl⟩:∃j,i=j+1:=(i - 1,by lia);have a:=(aab.mp hd).1;have:=h.2 j ds[j] m (aad (by lia)) hd;exact this.1
end Tw
namespace L2
open PySem.Spec PyProof.Rows
section
variable(P:Program)(w:World)
end
section
variable{P:Program}{o:HO}
end
section
variable{P:Program}{x e:Addr}{o':HO}
end
section
variable{fs fs' ex ex':List Addr}{H1 H2:Hp}{h1 h2:Heap}{x e:Addr}{o:HO}
end
section
variable{σ:List (Option V)}
end
section
variable{a:Expr}{pos:Pos}
variable{tA WL:TT}{rest:List Expr}
end
section
variable{xs ys:List V}
end
section
end
section
variable{rest:List Stmt}{t u:TS}{pos:Pos}
end
section
variable{pos:Pos}
end
section
variable{pos:Pos}
end
section
end
section
variable{a c:Expr}{tc:TE}{pos:Pos}
end
section
variable{a c:Expr}{tc:TE}{pos:Pos}
end
section
variable{x:Addr}{mA:Str->Option Value}{v:Value}
end
section
variable{P:Program}{fs fs':List (Str×V)}
end
section
variable{fs:List (Str×V)}{f:Str}{v:V}
end
section
variable{value:Expr}{f:Str}{pos pos' tpos:Pos}{tv:TE}
end
section
variable{Q:Value->Shared->Prop}{c:Value}{b:Bool}
end
section
variable{es:List Expr}{pos:Pos}
end
section
variable{s':Shared}
end
section
variable{k:Nat}{Va:List V}{ds:List Value}{E:XK}{m:Str}{pos:Pos}{es:List Expr}
end
section
variable{k:Nat}{ks:List Str}{E:XK}{m:Str}{pos kpos:Pos}{es:List Expr}{kws:List Keyword}{tk:TA}{nm:Option Str}
variable{g:List Value->List Value->List Value}{gV:List V->List V->List V}
end
section
variable{pos:Pos}{es:List Expr}{id T:String}{r:List V->Hp->VK->Prop}
end
section
variable{κ:Type}[DecidableEq κ]
def fO(a:List (κ×V))(k:κ):Option V:=(a.find? λb=>decide (b.1=k)).map (·.2)
def putK(a:List (κ×V))(k:κ)(v:V):List (κ×V):=
 if (a.any λb=>decide (b.1=k))=true then a.map (λb=>if b.1=k then (pq b.1 v)else b)else a++[(pq k v)]
theorem dg{p:κ×V}{r:List (κ×V)}{k:κ}(e:p.1=k):fO (p::r) k=some p.2:=by simp[fO,agP,e]
theorem dw{p:κ×V}{r:List (κ×V)}{k:κ}(e:¬p.1=k):fO (p::r) k=fO r k:=by simp[fO,agP,e]
theorem gh(k:κ):∀a:List (κ×V),(a.any λb=>decide (b.1=k))=(fO a k).isSome
 | []=>rfl
 | p::r=>by
  rw[agQ];by_cases e:p.1=k
  ·simp only[dg e,decide_eq_true e,ais,Option.isSome_some]
  ·rw[dw e,decide_eq_false e,aig];exact gh k r
theorem Ao(k j:κ)(y:V):∀a:List (κ×V),fO (a.map λb=>if b.1=k then (pq b.1 y)else b) j=(fO a j).map λx=>if j=k then y else x
 | []=>rfl
 | p::r=>by
  have c:=Ao k j y r;rw[aaA];by_cases h:p.1=k
  ·rw[if_pos h];by_cases e:p.1=j
   ·rw[dg (p:=(pq p.1 y)) e,dg e,ag4,if_pos (e.symm.trans h)]
   ·rw[dw (p:=(pq p.1 y)) e,dw e,c]
  ·rw[if_neg h];by_cases e:p.1=j
   ·rw[dg (p:=p) e,dg e,ag4,if_neg (λz=>h (e.trans z))]
   ·rw[dw (p:=p) e,dw e,c]
theorem yh(k j:κ)(y:V):∀a:List (κ×V),fO a k=none->fO (a++[(pq k y)]) j=if j=k then some y else fO a j
 | [],_=>by
  by_cases e:k=j
  ·rw[if_pos e.symm];exact dg (p:=(pq k y)) e
  ·rw[if_neg (λz=>e z.symm)];exact dw (p:=(pq k y)) e
 | p::r,b=>by
  rw[af5];have c:¬p.1=k:=λz=>by rw[dg z]at b;cases b
  rw[dw c]at b;have d:=yh k j y r b;by_cases e:p.1=j
  ·rw[dg e,dg e,if_neg (λz=>c (e.trans z))]
  ·rw[dw e,dw e,d]
theorem Am(b:List (κ×V))(k j:κ)(y:V):fO (putK b k y) j=if j=k then some y else fO b j:=by
 unfold putK;by_cases a:(b.any λc=>decide (c.1=k))=true
 ·rw[if_pos a,Ao];rw[gh]at a;by_cases e:j=k
  ·obtain⟨x,d⟩:=ahE.mp a;rw[if_pos e,e,d,ag4,if_pos rfl]
  ·rw[if_neg e];cases fO b j with
   | none=>rfl
   | some x=>rw[ag4,if_neg e]
 ·rw[if_neg a];refine yh k j y b ?_;rw[gh]at a;cases q:fO b k with
  | none=>rfl
  | some x=>rw[q]at a;exact(a rfl).elim
theorem mq(a:List (κ×V))(k:κ)(v:V):(putK a k v).length<=a.length+1:=by
 unfold putK;split
 ·rw[aaa];lia
 ·rw[aaf,aaY,ahV];lia
theorem Dg{a:List (κ×V)}{k:κ}(v:V)(h:fO a k=none):putK a k v=a++[(pq k v)]:=by
 unfold putK;rw[gh,h];exact if_neg (by decide)
theorem vZ.isSome_eq{o:Option V}{u:Option Value}(r:vZ o u):o.isSome=u.isSome:=by
 cases o with
 | none=>cases u with
  | none=>rfl
  | some _=>exact(show False from r).elim
 | some _=>cases u with
  | none=>exact(show False from r).elim
  | some _=>rfl
theorem KV.val{a:List (κ×V)}{f:List (κ×Value)}(r:KV a f)(k:κ):vZ (fO a k) (valueAt f k):=by
 unfold KV at r
 induction r with
 | nil=>exact True.intro
 | @cons p q l c h t i =>
  obtain⟨g,j⟩:=h;by_cases e:p.1=k
  ·have d:q.1=k:=g.symm.trans e;have b:valueAt (q::c) k=some q.2:=by simp[valueAt,agP,d]
   rw[dg e,b];exact j
  ·have d:¬q.1=k:=λz=>e (g.trans z);have b:valueAt (q::c) k=valueAt c k:=by simp[valueAt,agP,d]
   rw[dw e,b];exact i
theorem KV.any{a:List (κ×V)}{c:List (κ×Value)}(r:KV a c)(k:κ):(a.any λb=>decide (b.1=k))=c.any λb=>decide (b.1=k):=by
 unfold KV at r
 induction r with
 | nil=>rfl
 | cons h t d=>rw[agQ,agQ,d,h.1]
theorem KV.repl{b:List (κ×V)}{d:List (κ×Value)}(r:KV b d)(k:κ){y:V}{u:Value}(f:RelV y u):
  KV (b.map λa=>if a.1=k then (pq a.1 y)else a) (d.map λa=>if a.1=k then (pq a.1 u)else a):=by
 unfold KV at r ⊢
 induction r with
 | nil=>exact .nil
 | @cons p q l j h t g =>
  rw[aaA,aaA];refine .cons ?_ g;obtain⟨c,i⟩:=h;by_cases e:p.1=k
  ·rw[if_pos e,if_pos (c.symm.trans e)];exact(c,f)
  ·rw[if_neg e,if_neg (λz=>e (c.trans z))];exact(c,i)
theorem KV.put{a:List (κ×V)}{b:List (κ×Value)}(r:KV a b)(k:κ){y:V}{u:Value}(c:RelV y u):KV (putK a k y) (stored b k u):=by
 unfold putK stored;rw[r.any k];by_cases e:(b.any λd=>decide (d.1=k))=true
 ·rw[if_pos e,if_pos e];exact r.repl k c
 ·rw[if_neg e,if_neg e];exact Paired.snoc r (rfl,c)
theorem KV.length{a:List (κ×V)}{b:List (κ×Value)}(r:KV a b):a.length=b.length:=Paired.length r
end
theorem Bh{P:Program}{w:World}{k:Key}{u:Value}(r:RelV (kV k) u):(b8 P w).is k u=true:=by
 cases k with
 | inl i=>obtain⟨t,e⟩:=(show ∃t,u=Value.int i t from r);subst e;exact Cj P w i t
 | inr x=>obtain⟨t,e⟩:=(show ∃t,u=Value.str x t from r);subst e;exact Ba P w x t
theorem yq{P:Program}{w:World}:∀{a:List Key}{b:List Value},Vals (a.map kV) b->ItemsAre (b8 P w) a b
 | [],_,r=>by rw[ahc]at r;cases r;exact .nil
 | k::a,_,r=>by
  rw[aaA]at r;cases r with
  | cons h t=>exact .cons (Bh h) (yq t)
abbrev KT(H:Hp):List (List Key×V)->List (List Key×Addr×Value)->Prop:=Paired λp q=>p.1=q.1/\H q.2.1=some (.tup (p.1.map kV))/\RelV p.2 q.2.2
theorem KT.val{a:List (List Key×V)}{xs:List (List Key×Addr×Value)}(r:KT H a xs)(k:List Key):vZ (fO a k) ((atKey xs k).map (·.2)):=by
 induction r with
 | nil=>exact True.intro
 | @cons p q j c h t g =>
  obtain⟨f,_,i⟩:=h;by_cases e:p.1=k
  ·have d:q.1=k:=f.symm.trans e;have b:atKey (q::c) k=some q.2:=by simp[atKey,agP,d]
   rw[dg e,b];exact i
  ·have d:¬q.1=k:=λz=>e (f.trans z);have b:atKey (q::c) k=atKey c k:=by simp[atKey,agP,d]
   rw[dw e,b];exact g
theorem KT.repl{a:List (List Key×V)}{xs:List (List Key×Addr×Value)}(r:KT H a xs)(k:List Key){y:V}{u:Value}(f:RelV y u):
  KT H (a.map λc=>if c.1=k then (pq c.1 y)else c) (xs.map (putAt k u)):=by
 induction r with
 | nil=>exact .nil
 | @cons p q l j h t g =>
  rw[aaA,aaA];refine .cons ?_ g;obtain⟨b,d,i⟩:=h;unfold putAt;by_cases e:p.1=k
  ·rw[if_pos e,if_pos (b.symm.trans e)];exact(b,d,f)
  ·rw[if_neg e,if_neg (λz=>e (b.trans z))];exact(b,d,i)
theorem KT.put{a:List (List Key×V)}{xs:List (List Key×Addr×Value)}(r:KT H a xs)(k:List Key){b:Addr}{y:V}{u:Value}(f:H b=some (.tup (k.map kV)))(c:RelV y u):
  KT H (putK a k y) (storedH xs k b u):=by
 have e:(a.any λd=>decide (d.1=k))=(atKey xs k).isSome:=by
  rw[gh,(r.val k).isSome_eq,aim]
 unfold putK storedH;rw[e];by_cases q:(atKey xs k).isSome=true
 ·rw[if_pos q,if_pos q];exact r.repl k c
 ·rw[if_neg q,if_neg q];exact Paired.snoc r (rfl,f,c)
theorem KT.keeps{H':Hp}{a:List (List Key×V)}{xs:List (List Key×Addr×Value)}(r:KT H a xs)(ht:∀b ys,H b=some (.tup ys)->H' b=some (.tup ys)):KT H' a xs:=
 Paired.mapP r λ_ _ z=>(z.1,ht _ _ z.2.1,z.2.2)
section
variable{P:Program}
theorem O7{u:HO}(b:Ti P w H h)(e:Rd H a u):bB P w H h a u:=e.ok b
theorem GP{b:List (Key×V)}(d:Ti P w H h)(e:Rd H a (.dK b)):b.length<=sizeLine/\(a == sysModules)=false /\ ∃c,KV b c/\h.DictOf (b8 P w) a c:=
 show bB P w H h a (.dK b)from O7 d e
theorem O6{b:List (Key×V)}(d:Ti P w H h)(e:H a=some (.dK b)):b.length<=sizeLine/\(a == sysModules)=false /\ ∃c,KV b c/\h.DictOf (b8 P w) a c:=GP d (.inl e)
theorem yR{b:List Key}(d:Ti P w H h)(e:H a=some (.tup (b.map kV))):(tupleKind (b8 P w)).is h b a:=by
 obtain⟨_,c,r,o,i,g,n,f⟩:=(show bB P w H h a (.tup (b.map kV))from d a _ e);exact(o,c.toArray,n,i,g,f,by simpa using yq r)
theorem Gg{b:List (List Key×V)}(f:Ti P w H h)(e:Rd H a (.dT b)):b.length<=sizeLine/\(a == sysModules)=false /\
  ∃xs,KT H b xs/\h.DictOfH (tupleKind (b8 P w)) a xs:=by
 obtain⟨z,y,xs,r,o,v,A,u,s,n,k,j⟩:=(show bB P w H h a (.dT b)from O7 f e);refine(z,y,xs,r,o,v,A,u,s,n,k,λx c=>?_,j);have d:∀{l:List (List Key×V)} {m:List (List Key×Addr×Value)},KT H l m -> ∀x∈m,(tupleKind (b8 P w)).is h x.1 x.2.1:=by
  intro l m q
  induction q with
  | nil=>intro x c;exact nomatch c
  | @cons p q C B g t i =>
   intro x c;rcases aaH.mp c with e|c
   ·subst e;exact yR f (by rw[<-g.1];exact g.2.1)
   ·exact i x c
 exact d r x c
theorem Q8{b:List (List Key×V)}(c:Ti P w H h)(e:H a=some (.dT b)):b.length<=sizeLine/\(a == sysModules)=false /\
  ∃xs,KT H b xs/\h.DictOfH (tupleKind (b8 P w)) a xs:=Gg c (.inl e)
end
def yJ(H:Hp)(a:Addr)(y:V)(r:Option V):Prop:=
 (∃c k,Rd H a (.dK c)/\y=kV k/\r=fO c k) \/ ∃c k b,Rd H a (.dT c)/\y=.ref b/\H b=some (.tup (k.map kV))/\r=fO c k
def RM(H:Hp)(a:Addr)(y v:V)(H':Hp):Prop:=
 (∃c k,H a=some (.dK c)/\y=kV k/\c.length<sizeLine/\H'=upd H a (.dK (putK c k v))) \/
 ∃c k b,H a=some (.dT c)/\y=.ref b/\H b=some (.tup (k.map kV))/\c.length<sizeLine/\H'=upd H a (.dT (putK c k v))
theorem yJ.k{H:Hp}{a:Addr}{b:List (Key×V)}{k:Key}(e:H a=some (.dK b)):yJ H a (kV k) (fO b k):=.inl (b,k,.inl e,rfl,rfl)
section
variable{y v:V}{u r:Value}{o:Option V}
theorem Inv.big(I:Inv X π σ H s):sysModules<s.heap.objs.size:=by
 have h:mainGlobals<s.heap.objs.size:=(I.mod.glob.keeps I.bk).lt;exact ait (by decide) h
theorem Jf{Q:Value->Shared->Prop}(D:A.units+1<cLine)(I:Inv X π σ H s)(g:yJ H a y (some v))(x:RelV y u)(h:∀d t,Inv X π σ H t->RelV v d->Q d t):
  wpAny (model X.prog X.w) A (getItem (.ref a) u) Q E s:=by
 rcases g with ⟨n,k,e,i,l⟩|⟨n,k,b,e,i,G,l⟩
 ·subst i;obtain⟨z,hd,C,c,j⟩:=GP I.hok e;obtain⟨d,f,m⟩:=vZ.some_of (v:=v) (o:=valueAt C k) (by rw[l];exact c.val k);exact wpAny_getItem_of (Bh x) j.mapOf f (h d _ (I.tok _) m)
 ·subst i;cases (show u=Value.ref b from x);obtain⟨z,hd,B,c,j⟩:=Gg I.hok e;obtain⟨d,f,m⟩:=vZ.some_of (v:=v) (o:=(atKey B k).map (·.2)) (by rw[l];exact c.val k);obtain⟨p,F,q⟩:=abu.mp f;refine wpAny_getItem_heap (tupleKind_room_in1 D) (yR I.hok G) j F ?_;rw[q];exact h d _ (I.tok _) m
theorem R3{Q:Value->Shared->Prop}(n:A.units+1<cLine)(I:Inv X π σ H s)(g:yJ H a y o)(m:RelV y u)(h:∀j,Inv X π σ H j->Q (.bool o.isSome) j):
  wpAny (model X.prog X.w) A (compareOp .In u (.ref a)) Q E s:=by
 rcases g with ⟨i,k,e,d,l⟩|⟨i,k,b,e,d,p,l⟩
 ·subst d;obtain⟨z,hd,x,c,f⟩:=GP I.hok e;refine wpAny_in_of (Bh m) hd f.mapOf ?_;rw[<-(c.val k).isSome_eq,<-l];exact h _ (I.tok _)
 ·subst d;cases (show u=Value.ref b from m);obtain⟨z,hd,t,c,f⟩:=Gg I.hok e;refine wpAny_in_heap (tupleKind_room_in1 n) (yR I.hok p) hd f ?_;have q:=(c.val k).isSome_eq;rw[aim]at q;rw[<-q,<-l];exact h _ (I.tok _)
theorem yL{h':Heap}{t':Nat}{c:HO}(I:Inv X π σ H s)(f:WD (H a))(g:Heap.SameBut a s.heap h')(h:∃q,h'.get? a=some q)(d:bB X.prog X.w (upd H a c) h' a c):
  Inv X π σ (upd H a c) { s with heap:=h',toks:=t' }:=
 I.write (x:=a) (e:=a) f (.inl rfl) (λb q i z=>(g.2 b i).trans z) h d
theorem Kd{P:Program}{w:World}{H':Hp}{h':Heap}{b:List (Key×V)}{c:List (Key×Value)}(z:b.length<=sizeLine)(hd:(a == sysModules)=false)(d:KV b c)(dd:h'.DictOf (b8 P w) a c):
  bB P w H' h' a (.dK b):=(z,hd,c,d,dd)
theorem Hg{H':Hp}{Q:Unit->Shared->Prop}(N:A.units+1<cLine)(I:Inv X π σ H s)(g:RM H a y v H')(D:RelV y u)(F:RelV v r)(h:∀C,Inv X π σ H' C->Q () C):
  wpAny (model X.prog X.w) A (setItem (.ref a) u r) Q E s:=by
 rcases g with ⟨f,k,e,t,l,x⟩|⟨f,k,b,e,t,K,l,x⟩
 ·subst t x;obtain⟨z,hd,M,d,B⟩:=O6 I.hok e;have m:M.length<=sizeLine:=by rw[<-d.length];exact z
  have p:(putK f k v).length<=sizeLine:=by have:=mq f k v;lia
  refine wpAny_setItem_pairs (hsz:=m) (Bh D) B λG j n=>h _ ?_;have O:∃q,G.get? a=some q:=let ⟨q,_,_,i,_⟩:=j;(q,i);exact yL I (by rw[e];exact True.intro) n O (Kd p hd (d.put k F) j)
 ·subst t x;cases (show u=Value.ref b from D);obtain⟨z,hd,L,d,B⟩:=Q8 I.hok e;have m:L.length<=sizeLine:=by rw[<-Paired.length d];exact z
  have p:(putK f k v).length<=sizeLine:=by have:=mq f k v;lia
  refine wpAny_setItem_heap (hsz:=m) (tupleKind_room_in1 N) (yR I.hok K) B λG j n=>h _ ?_;obtain⟨q,U,V,i,T,S,R,_,P⟩:=j;refine yL I (by rw[e];exact True.intro) n (q,i) (p,hd,_,(d.put k K F).keeps λc W J=>?_,q,U,V,i,T,S,R,P);rw[aH (Ru J e (λz=>nomatch z))];exact J
end
section
variable{kvs:List (Key×V)}{k:Key}{u:Value}
end
def Q4(i:Expr):Prop:=∀a b,subscripted i false a b=operate [a,b] (getItem a b)
theorem Mv{prog:Program}{w:World}{A:Around}{E:Value->Shared->Prop}{s:Shared}{g:Env}{pos:Pos}{T id:String}{Q:Value->Shared->Prop}
  (n:typeLookup (.type T) "__getitem__" = pure (some (.builtin id)))(m:Q4 tg)
  (h:wpAny (model prog w) A (eval e g) (λo d=>wpAny (model prog w) A (eval tg g) (λi a=>a.TypeIs o T/\wpAny (model prog w) A (getItem o i) Q E a) E d) E s):
  wpAny (model prog w) A (eval (.Subscript e tg pos) g) Q E s:=by
 refine Subscript_ (wpAny_mono h (λo d k=>wpAny_mono k (λi a b=>?_) λ_ _ x=>x) λ_ _ x=>x);obtain⟨l,b⟩:=b;unfold subscriptTail;refine wpAny_bind ?_;rw[getitemInPython_of_ne l.not_modules];refine wpAny_bind (wpAny_specialOf l n ?_);have f:wpAny (model prog w) A (subscripted tg false o i) (λr c=>wpAny (model prog w) A (letTemporaryGo e o r >>= λ_=>pure r) Q E c) E a:=by
  rw[m o i];exact wpAny_operating (wpAny_mono b (λr c j=>wpAny_bind (wpAny_letTemporaryGo (wpAny_pure j))) λ_ _ x=>x)
 first
  | exact wpAny_pure (wpAny_bind f)
  | exact wpAny_bind (wpAny_pure (wpAny_bind f))
  | exact wpAny_bind f
theorem Ag{X:Cx}{σ:St}{s:Shared}{a:Addr}{y:V}{o:Option V}(I:Inv X π σ H s)(g:yJ H a y o):s.TypeIs (.ref a) "dict":=by
 rcases g with ⟨d,k,e,_,_⟩|⟨d,k,b,e,_,_,_⟩
 ·obtain⟨_,_,h,_,c⟩:=GP I.hok e;exact c.typeIs
 ·obtain⟨_,_,f,_,c⟩:=Gg I.hok e;exact c.typeIs
inductive MN(Q:VK)(x:V)(y:V)(H2:Hp):Prop
 | mk (a v:_) (_:x=.ref a) (_:yJ H2 a y (some v)) (_:Q v H2)
def JD(a:TE)(σ:St)(Q:VK):VK:=λx b=>a σ b (MN Q x)
def RN(c b:TE):TE:=λ a H Q=>c a H (JD b a Q)
inductive Pq(Q:VK)(y:V)(x:V)(H2:Hp):Prop
 | mk (a o:_) (_:x=.ref a) (_:yJ H2 a y o) (_:Q (.bl o.isSome) H2)
def NP(a:TE)(σ:St)(Q:VK):VK:=λy b=>a σ b (Pq Q y)
def Sy(b c:TE):TE:=λ a H Q=>b a H (NP c a Q)
inductive NZ(D:Ends)(σ:St)(v:V)(x:V)(y:V)(H3:Hp):Prop
 | mk (a H4:_) (_:x=.ref a) (_:RM H3 a y v H4) (_:D.nx σ H4)
def Km(a:TE)(D:Ends)(σ:St)(v:V):VK:=λx b=>a σ b (NZ D σ v x)
def K9(b:TE)(a:TE)(D:Ends)(σ:St):VK:=λv c=>b σ c (Km a D σ v)
def RL(d b c:TE):TS:=λD a H=>c a H (K9 d b D a)
section
variable{i value:Expr}{pos pos' tpos:Pos}{td ty tv:TE}
theorem Od(n:X.A.units+1<cLine)(q:PE X o td)(r:PE X i ty)(p:Q4 i):PE X (.Subscript o i pos) (RN td ty):=by
 intro c s b H Q I h;refine Mv PySem.F.slot_dict_getitem.lookup p (S5 (q c s b H _ I h) λu f ⟨x,D,B,k,m⟩=>S5 (r c f b D _ B m) λK J ⟨y,C,d,j,a,v,t,g,l⟩=>?_);subst t;obtain rfl:u=Value.ref a:=k;exact(Ag d g,Jf n d g j λE G z w=>(v,C,z,w,l))
theorem Qa(n:X.A.units+1<cLine)(q:PE X i ty)(p:PE X o td):PC X .In i o (Sy ty td):=by
 intro c s b H Q I h;refine S5 (q c s b H _ I h) λE d ⟨y,B,w,f,l⟩=>S5 (p c d b B _ w l) λu D ⟨x,z,v,j,a,m,r,g,k⟩=>?_;subst r;obtain rfl:u=Value.ref a:=j;exact R3 n v g f λC t=>(.bl m.isSome,z,t,rfl,k)
theorem zY(t:X.A.units+1<cLine)(z:PE X o td)(B:PE X i ty)(q:PE X value tv)(w:swapsWith value (some (.Subscript o i pos')) pos.line X.env=pure false):
  PS X (.Assign [.Subscript o i pos'] value pos) (RL td ty tv):=by
 intro c s b H D I h;refine wpAny_Assign_Subscript (S5 (q c s b H _ I h) λr f ⟨v,M,J,l,p⟩=>S5 (z c f b M _ J p) λu d ⟨x,L,G,k,n⟩=>S5 (B c d b L _ G n) λP O ⟨y,Q,F,j,a,K,C,g,m⟩=>?_) w;subst C;obtain rfl:u=Value.ref a:=k;exact Hg t F g j l λN E=>(b,K,E,m)
end
theorem Bq{P:Program}{w:World}(h:Heap)(a:sysModules<h.objs.size):bB P w H (h.push { cls:=.type "dict",data:=.dict #[] }) h.objs.size (.dK []):=
 (aaK _,beq_eq_false_iff_ne.mpr (ae2 (aaq a)),[],.nil,Heap.DictOf.new h)
def Qq:TE:=λ_ H Q=>∀p,H p=none->Q (.ref p) (upd H p (.dK []))
section
variable{pos:Pos}
theorem Cp:PE X (.Dict [] [] pos) Qq:=λ c s b H Q I h =>
 wpAny_Dict_empty (.ref s.heap.objs.size,_,I.laid (a:=s.heap.objs.size) (o:=.dK []) (t':=s.toks) (λ_ _ q=>Heap.get?_push_of_some _ q) (aac _) (Bq s.heap I.big),rfl,h _ (I.hok.fresh (aac _)))
end
def Dk:List (TE×TE)->St->Hp->(List (V×V)->Hp->Prop)->Prop
 | [],_,H,Q=>Q [] H
 | (c,b)::r,a,H,Q=>c a H λx g=>b a g λy f=>Dk r a f λd e=>Q ((pq x y)::d) e
abbrev VV:List (V×V)->List (Value×Value)->Prop:=Paired λp q=>RelV p.1 q.1/\RelV p.2 q.2
def XC(X:Cx)(pos:Pos)(b:List (Option Expr))(a:List Expr)(i:List (TE×TE)):Prop:=
 ∀(d:List (Addr×Obj)) (s:Shared) (c:St) (H:Hp) (Q:List (V×V)->Hp->Prop),Inv X d c H s->Dk i c H Q ->
  wpAny (model X.prog X.w) X.A (evalPairs (pairTrees b a X.env pos)) (λg h=>∃e f,Inv X d c f h/\VV e g/\Q e f) X.xe s
theorem Mp{X:Cx}{pos:Pos}:XC X pos [] [] []:=λ b s a H Q I h=>pairTrees_nil_walk ([],H,I,.nil,h)
theorem Lz{X:Cx}{pos:Pos}{k v:Expr}{e:List (Option Expr)}{d:List Expr}{tk :TE}{f:List (TE×TE)}(t:PE X k tk)(q:PE X v ta)(r:XC X pos e d f):
  XC X pos (some k::e) (v::d) ((pq tk ta)::f):=λ b s a H Q I h =>
 pairTrees_cons_walk (S5 (t b s a H _ I h) λu i ⟨x,D,A,l,o⟩=>S5 (q b i a D _ A o) λF g ⟨y,C,z,j,n⟩ =>
  S5 (r b g a C _ z n) λE G ⟨p,B,w,c,m⟩=>((pq x y)::p,B,w,.cons (l,j) c,m))
def lJ(b a:List (Key×V)):List (Key×V):=a.foldl (λc d=>putK c d.1 d.2) b
theorem KV.merge:∀{b:List (Key×V)} {d:List (Key×Value)} {a:List (Key×V)} {c:List (Key×Value)},KV b d->KV a c->KV (lJ a b) (merged c d):=by
 intro b d a c r;unfold KV at r
 induction r generalizing a c with
 | nil=>intro q;exact q
 | @cons p q j i h t g =>
  intro f;have e:KV (putK a p.1 p.2) (stored c q.1 q.2):=by
   have:=f.put p.1 h.2;rw[<-h.1];exact this
  exact g e
theorem nA:∀(b a:List (Key×V)),(lJ a b).length<=a.length+b.length
 | [],a=>by show a.length<=a.length+0;lia
 | p::r,a=>by
  have d:=nA r (putK a p.1 p.2);have c:=mq a p.1 p.2;show (lJ (putK a p.1 p.2) r).length<=_;rw[aaY];lia
theorem u6{P:Program}{w:World}:∀{d:List (Key×V)} {f:List (Value×Value)},VV (d.map λg=>(pq (kV g.1) g.2)) f -> ∃e,Carries (b8 P w) f e/\KV d e
 | [],_,r=>by rw[ahc]at r;cases r;exact([],True.intro,.nil)
 | p::d,_,r=>by
  rw[aaA]at r;cases r with
  | @cons a b l j h t =>
   obtain⟨e,c,q⟩:=u6 (P:=P) (w:=w) t;obtain⟨k,i⟩:=b;exact((pq p.1 i)::e,(Bh h.1,rfl,c),.cons (rfl,h.2) q)
def Q6(f:List (TE×TE)):TE:=λ d H Q=>∀p,H p=none->Dk f d (upd H p (.dK [])) λe c=>c p=some (.dK []) /\ ∃a:List (Key×V),e=a.map (λb=>(pq (kV b.1) b.2))/\a.length<=15/\Q (.ref p) (upd c p (.dK (lJ [] a)))
theorem M6{X:Cx}{pos:Pos}{b:List (Option Expr)}{j:List (TE×TE)}(h:XC X pos b v j)(f:b.all (·.isSome)=true)(B:b.length=v.length)(E:b≠[])
  (i:b.length<=15):PE X (.Dict b v pos) (Q6 j):=by
 intro n s m H Q I q;have A:=I.hok.fresh (aac s.heap.objs.size)
 have K:=I.laid (a:=s.heap.objs.size) (o:=.dK []) (h':=s.heap.push { cls:=.type "dict",data:=.dict #[] }) (t':=s.toks) (λ_ _ q=>Heap.get?_push_of_some _ q) (aac _) (Bq s.heap I.big)
 refine wpAny_Dict_walk (knd:=b8 X.prog X.w) f B E i (S5 (h n _ m _ _ K (q _ A)) λM N ⟨O,S,l,g,e,d,G,R,u⟩=>?_);subst G;obtain⟨p,c,r⟩:=u6 (P:=X.prog) (w:=X.w) g;obtain⟨z,hd,L,t,J⟩:=O6 l.hok e;cases t;refine(p,c,J,λF k y=>(.ref s.heap.objs.size,_,?_,rfl,u));have x:(lJ [] d).length<=sizeLine:=by
  have D:=nA d [];rw[ahV]at D;rw[sizeLine_eq];lia
 have C:∃q,F.get? s.heap.objs.size=some q:=let ⟨q,_,_,hq,_⟩:=k;(q,hq);exact yL l (by rw[e];exact True.intro) y C (Kd x hd (r.merge .nil) k)
structure M1(X:Cx)(o:Expr)(m:Str)(apos:Pos)(e:Expr)(cpos:Pos):Prop where
 base:attributeBase o m X.env (eval o X.env)=eval o X.env
 few:((backTo cpos (starEach [e] X.env)).all (λx=>!x.1) && (backToKw cpos (keywordEach [] X.env)).all (λx=>x.1.isSome)
  && decide (([e]:List Expr).length+([]:List Keyword).length+(if ([]:List Keyword).isEmpty then 0 else 1)<30))=true
 line:(apos.endLine == cpos.line)=true
 trees:backTo cpos (starEach [e] X.env)=[(pq false (eval e X.env))]
section
variable{y d:V}{u r:Value}{o:Option V}
end
section
variable{f:Expr}{cpos:Pos}{td ty tx:TE}
end
section
variable{kvs:List (Key×V)}
end
section
variable{y:V}{u:Value}
end
end L2
namespace Xr
open PySem.W PySem.Calls PyProof.Rows
section
variable{K:Frag}
end
end Xr
namespace L2
open PySem.Spec PyProof.Rows
section
variable{P:Program}
end
section
end
section
variable{κ:Type}[DecidableEq κ]
end
section
variable{rest:List Stmt}{t u:TS}
def RT(t u:TS):TS:=λD c H=>∃R:St->Hp->Prop,t { D with nx:=R } c H /\ ∀a b,R a b->u D a b
theorem Oe(i:PS X st t)(g:Ub X rest u):Ub X (st::rest) (RT t u):=by
 rintro b s c H D I ⟨R,h,e⟩;refine wpAny_execs_cons (S5 (i b s c H { D with nx:=R } I h) λf d q=>?_);cases f with
 | next =>
  obtain⟨a,k,j,q⟩:=q;exact g b d a k D j (e _ _ q)
 | ret v=>exact q
 | brk=>exact q
 | cont=>exact q
theorem xJ{x:Str}{d:Stmt}{ps:List Str}{f:Addr}{fd:FuncData}{j k:Nat}{E:XK}{e:Expr}{p pos:Pos}{t:TA}(D:Tw.Df X.K X.mg x d ps f fd)(F:aV X.prog X.w X.K X.mg X.base CX j f fd ps sp)(i:j<=k)(h:dX k X.A)(g:qQ CX X E)(l:Gl X x)
  (o:PA X (e::v) t)(c:(x == ("__debug__" : Str))=false:=by decide)(n:starEach (e::v) X.env=(pq false (eval e X.env))::starEach v X.env:=by rfl)(a:(backTo pos (starEach v X.env)).any (·.1)=false:=by rfl):
  PE X (.Call (.Name x p) (e::v) [] pos) (K5 sp [] E t):=Mq (F.mono i) h l D.m D.F.kp D.b .nil g o c n a
theorem aF{x:Str}{c:Stmt}{ps:List Str}{f:Addr}{fd:FuncData}{j k:Nat}{e:Expr}{p pos:Pos}{t:TA}(D:Tw.Df X.K X.mg x c ps f fd)(F:aV X.prog X.w X.K X.mg X.base S6 j f fd ps sp)(d:dX k X.A)
  (l:PA X (e::v) t)(g:j<=k:=by decide)(h:Gl X x:=by rfl)(b:(x == ("__debug__" : Str))=false:=by decide)(i:starEach (e::v) X.env=(pq false (eval e X.env))::starEach v X.env:=by rfl)(a:(backTo pos (starEach v X.env)).any (·.1)=false:=by rfl):
  PE X (.Call (.Name x p) (e::v) [] pos) (K5 sp [] E0 t):=xJ D F g d Rr h l b i a
end
end L2
namespace Tw
end Tw
namespace L2
open PySem.Spec PyProof.Rows
theorem Q5{P:Program}{w:World}{k:Key}{u:Value}(h:(b8 P w).is k u=true):RelV (kV k) u:=by
 rcases bY h with ⟨i,t,rfl,rfl⟩|⟨x,t,rfl,rfl⟩
 ·exact(t,rfl)
 ·exact(t,rfl)
theorem KV.get:∀{a:List (Key×V)} {b:List (Key×Value)} {i:Nat}{p:Key×V},KV a b->a[i]?=some p -> ∃q,b[i]?=some q/\p.1=q.1
 | _,_,_,_,.nil,e=>by simp at e
 | _,_,0,_,.cons r _,e=>by simp at e;subst e;exact(_,rfl,r.1)
 | _,_,i+1,p,.cons _ t,e=>by
  obtain⟨q,d,c⟩:=KV.get (i:=i) (p:=p) t (by simpa using e);exact(q,by simpa using d,c)
section
end
end L2
namespace Tw
theorem je{k:Nat}{b:Int}(h:d[k]?=some b):(d.take (k+1)).sum=(d.take k).sum+b:=by
 rw[abW,h];simp[ag2]
theorem iU{a:List Int}(h:aZ a)(i:Nat):∀j:Nat,i<=j->(a.take i).sum<=(a.take j).sum
 | 0,c=>by
  have:i=0:=by lia
  subst this;exact aiD _
 | j+1,c=>by
  by_cases e:i=j+1
  ·subst e;exact aiD _
  have:=iU h i j (by lia);cases q:a[j]? with
  | none =>
   rw[abW,q];simp;exact this
  | some b =>
   rw[je q];have:=h b (aag q);lia
theorem z7:∀l:List Int,blk (l.map λx=>1 - x)=2^l.length - 1 - blk l
 | []=>by simp[blk]
 | x::l=>by
  rw[aaA,aaY,aiq];simp only[blk];rw[z7 l];lia
theorem Ah:∀(l:List Int) (k:Nat),k<=l.length->((l.map λx=>1 - x).take k).sum=k - (l.take k).sum
 | _,0,_=>by simp
 | [],k+1,h=>by simp at h
 | x::l,k+1,h=>by
  have:=Ah l k (by simpa using h);rw[aaA,agY,agY,ahq,ahq,this];lia
theorem turned{b:Int}(j:0<=b)(i:b<2^32):(∀k:Nat,k<32->bit (2^32 - 1 - b) k=1 - bit b k) /\ ∀k:Nat,k<=32->ones (2^32 - 1 - b) k=k - ones b k:=by
 have c:=By b 32;have e:=CQ 32 b j i;have h:=gq b 32;have ht:aZ ((bits b 32).map λx=>1 - x):=λx g=>by
  obtain⟨y,f,rfl⟩:=abl.mp g;have:=c y f;lia
 have d:blk ((bits b 32).map λx=>1 - x)=2^32 - 1 - b:=by rw[z7,h,e]
 refine(λk a=>?_,λk a=>?_)
 ·rw[<-d,ut ht,aah,uz a];rfl
 ·rw[<-d,lR ht,Ah _ _ (by lia),<-lR c,e]
theorem K1(b t:Int)(ht:0<=t):∀n:Nat,t<ones b n -> ∃k,k<n/\bit b k=1/\ones b k=t
 | 0,h=>by
  rw[qd]at h;lia
 | n+1,h=>by
  by_cases c:t<ones b n
  ·obtain⟨k,e,a⟩:=K1 b t ht n c;exact(k,by lia,a)
  ·rw[iw]at h;have d:bit b n=0\/bit b n=1:=by
    unfold bit;lia
   exact(n,by lia,by lia,by lia)
theorem nR:∀(l:List Int) (u:Int),aZ (brk l u)
 | [],u=>λb a=>.inl (agx a)
 | d::r,u=>λb a=>by
  simp only[brk,abn,aaH]at a;rcases a with a|rfl|a
  ·exact .inl (agx a)
  ·exact .inr rfl
  ·exact nR r _ b a
theorem Kh{k:Nat}{b:Int}(h:d[k]?=some b):(d.take (k+1)).sum=(d.take k).sum+b:=by
 rw[abW,h];simp
theorem zF{ds:List Int}(h:gj ds):∀k:Nat,k<=(brk ds 0).length -> ∃a:Nat,a<=ds.length/\a<=k/\((brk ds 0).take k).sum=a/\(brk ds 0).drop k=brk (ds.drop a) (ht (brk ds 0) k)/\Dp (ds.drop a) (ht (brk ds 0) k)
 | 0,_=>(0,aaK _,aac _,rfl,by rw[jk];rfl,by rw[jk];exact h.dp)
 | k+1,q=>by
  obtain⟨a,o,t,s,i,n⟩:=zF h k (by lia);have c:(brk ds 0)[k]?=some (brk ds 0)[k]:=aad (by lia);have p:(brk ds 0).drop k=(brk ds 0)[k]::(brk ds 0).drop (k+1):=abV (by lia);rw[p]at i;have b:=jU c;have g:=Kh c;rcases CN n i.symm with ⟨z,_,d,e⟩|⟨r,m,z,d,e⟩
  ·rw[z]at b g;exists a,o,by lia,by lia,?_
   ·rw[b,d];congr 1;lia
   ·rw[b,show ht (brk ds 0) k+2*0 - 1=ht (brk ds 0) k - 1 from by lia];exact e
  ·rw[z]at b g;have f:a<ds.length:=by
    have:=congrArg af7 m;rw[abU,aaY]at this;lia
   have l:ds.drop (a+1)=r:=by
    have:ds.drop (a+1)=(ds.drop a).drop 1:=by rw[aha]
    rw[this,m];rfl
   have j:ht (brk ds 0) k+2*1 - 1=ht (brk ds 0) k+1:=by lia
   exists a+1,f,by lia,by lia,?_
   ·rw[b,j,l];exact d
   ·rw[b,j,l];exact e
theorem m6{ds:List Int}(a:gj ds):(brk ds 0).length=2*ds.length:=by
 rw[jP a.dp];show 0+_=_;lia
theorem Cz{ds:List Int}(e:gj ds){k:Nat}(n:k<(brk ds 0).length):((brk ds 0)[k]?=some 0/\0<ht (brk ds 0) k)\/((brk ds 0)[k]?=some 1 /\ ∃a:Nat,((brk ds 0).take k).sum=a/\a<ds.length/\ds[a]?=some (ht (brk ds 0) k)):=by
 obtain⟨a,p,o,g,c,f⟩:=zF e k (by lia);have b:(brk ds 0)[k]?=some (brk ds 0)[k]:=aad (by lia);have l:(brk ds 0).drop k=(brk ds 0)[k]::(brk ds 0).drop (k+1):=abV (by lia);rw[l]at c;rcases CN f c.symm with ⟨z,u,h,m⟩|⟨r,d,z,h,m⟩
 ·exact .inl (by rw[b,z],by lia)
 ·refine .inr (by rw[b,z],a,g,?_,?_)
  ·have:=congrArg af7 d;rw[abU,aaY]at this;lia
  ·have:=age (xs:=ds) (i:=a) (j:=0);rw[d]at this;exact this.symm
theorem uJ{ds:List Int}(a:gj ds):Tree (brk ds 0):=by
 have i:=m6 a;have n:0<ds.length:=(aab.mp a.1).1;refine(by lia,?_,λk h e=>?_)
 ·obtain⟨c,m,l,j,d,b⟩:=zF a _ (aac _);rw[ahi]at d;exact(Oi b d.symm).2
 ·rcases Cz a e with ⟨_,z⟩|⟨_,c,p,o,g⟩
  ·exact z
  ·obtain⟨_,_,_,_,_,b⟩:=zF a k (by lia);have f:=b.pos;rcases acz c with rfl|z
   ·unfold ht at f;lia
   ·have:=a.one z g;lia
theorem Oa{ds:List Int}(a:gj ds){k:Nat}(b:(brk ds 0).length<=k):((brk ds 0).take k).sum=ds.length:=by
 have h:=(uJ a).2.1;have c:=m6 a;unfold ht at h;rw[ago]at h;rw[aai b];lia
theorem CG{ds:List Int}(a:gj ds):(brk ds 0).sum=ds.length:=by
 have:=Oa a (k:=(brk ds 0).length) (aac _);rw[ago]at this;exact this
theorem LC{ds:List Int}(e:gj ds){i p:Nat}(a:(brk ds 0)[p]?=some 1)(h:((brk ds 0).take p).sum=(i:Int)):ds[i]?=some (ht (brk ds 0) p):=by
 have d:=(aab.mp a).1;rcases Cz e d with ⟨z,_⟩|⟨_,b,g,f,c⟩
 ·rw[z]at a;cases a
 ·have:b=i:=by lia
  subst this;exact c
structure Pair(ns:List Int)(a b:Nat):Prop where
 lt:a<b
 XD:b<ns.length
 one:ns[a]?=some 1
 nought:ns[b]?=some 0
 eq:ht ns (b+1)=ht ns a
 above:∀k,a<k->k<=b->ht ns a<ht ns k
theorem yI(m:aZ d){a k:Nat}(g:d[a]?=some 1)(f:dR d a d.length (ht d a) (k+1)):Pair d a k:=by
 obtain⟨r,q,p,h⟩:=f;have e:=jU g;have b:a<k:=by
  rcases aas a k with z|z
  ·exact z
  ·have:k=a:=by lia
   subst this;lia
 have n:=h k b (by lia);rcases PP m (show k<d.length by lia)with ⟨c,j⟩|⟨c,j⟩
 ·lia
 ·exact(b,by lia,g,c,by lia,λi l o=>h i l (by lia))
theorem JT(a:List Int)(n:Nat):TQ a n=(adU n).map (λk=>(a.take (32*k)).sum)++[(a.take (32*n)).sum]:=by
 unfold TQ;rw[af1,aal];rfl
theorem Bc{ds:List Int}(a:gj ds){i:Nat}(h:ds[i]?=some m):0<=m:=by
 rcases acz i with z|z
 ·subst z;rw[a.1]at h;have:=aap h;lia
 ·have:=a.one z h;lia
theorem QR(b:aZ d){m:Nat}(h:(m:Int)<d.sum):∃p,d[p]?=some 1/\(d.take p).sum=(m:Int):=by
 have:∀n:Nat,n<=d.length->(m:Int)<(d.take n).sum -> ∃p,d[p]?=some 1/\(d.take p).sum=(m:Int):=by
  intro n
  induction n with
  | zero =>
   intro _ z;rw[ah4]at z;have:([]:List Int).sum=0:=rfl;lia
  | succ n a =>
   intro f z;have e:=aad (show n<d.length by lia);rw[je e]at z;by_cases c:(m:Int)<(d.take n).sum
   ·exact a (by lia) c
   ·rcases b _ (abX (show n<d.length by lia))with y|y
    ·lia
    ·rw[y]at e z;exact(n,e,by lia)
 exact this d.length (aac _) (by rw[ago];exact h)
def run(ds:List Int)(k:Nat)(g:Int):Nat:=((ds.drop k).takeWhile λx=>decide (g<x)).length
theorem yw{ds:List Int}{k:Nat}{x:Int}(h:ds[k]?=some x):ds.drop k=x::ds.drop (k+1):=by
 have a:=(aab.mp h);rw[abV a.1,a.2]
theorem zU{ds:List Int}{k:Nat}{g x:Int}(h:ds[k]?=some x)(a:g<x):run ds k g=run ds (k+1) g+1:=by
 unfold run;rw[yw h,ah8,if_pos (decide_eq_true a),aaY]
theorem G3{ds:List Int}{k:Nat}{g x:Int}(h:ds[k]?=some x)(a:¬g<x):run ds k g=0:=by
 unfold run;rw[yw h,ah8,if_neg (λz=>a (of_decide_eq_true z))];rfl
theorem GZ{ds:List Int}{k:Nat}{g:Int}(h:ds.length<=k):run ds k g=0:=by
 unfold run;rw[ahR h];rfl
theorem Cy{ds:List Int}{g:Int}:∀(n k:Nat),(∀m,m<n -> ∃x,ds[k+m]?=some x/\g<x)->(∀x,ds[k+n]?=some x -> ¬g<x)->run ds k g=n
 | 0,k,_,h=>by
  cases e:ds[k]? with
  | none=>exact GZ (ags.mp e)
  | some x=>exact G3 e (h x (by rw[ahB];exact e))
 | n+1,k,a,d=>by
  obtain⟨x,e,c⟩:=a 0 (by lia);rw[ahB]at e;rw[zU e c,Cy n (k+1) (λm f=>by
   obtain⟨y,e,b⟩:=a (m+1) (by lia);exact(y,by rw[<-e];congr 1;lia,b)) (λy e=>d y (by rw[<-e];congr 1;lia))]
theorem CW{ds:List Int}{g:Int}:∀(n k:Nat),run ds k g=n->(∀m,m<n -> ∃x,ds[k+m]?=some x/\g<x)/\(∀x,ds[k+n]?=some x -> ¬g<x)
 | 0,k,h=>by
  refine(λm d=>absurd d (agl _),λx e c=>?_);rw[ahB]at e;rw[zU e c]at h;lia
 | n+1,k,h=>by
  cases e:ds[k]? with
  | none =>
   rw[GZ (ags.mp e)]at h;lia
  | some x =>
   by_cases c:g<x
   ·rw[zU e c]at h;obtain⟨a,b⟩:=CW (ds:=ds) (g:=g) n (k+1) (by lia);refine(λm d=>?_,λy e=>b y (by rw[<-e];congr 1;lia));rcases acz m with z|z
    ·subst z;exact(x,e,c)
    ·obtain⟨y,e,f⟩:=a (m - 1) (by lia);exact(y,by rw[<-e];congr 1;lia,f)
   ·rw[G3 e c]at h;lia
end Tw
namespace L2
open PySem.Spec PyProof.Rows
section
theorem J7(a b:Int):Builtin.Range.rangeSize a b (-1)=((a - b).toNat:Int):=by
 unfold Builtin.Range.rangeSize;rw[if_neg (by decide),show (- -1:Int)=1 from rfl,air];split <;> lia
theorem Cv{a b:Int}(d : -1<=a)(c : -1<=b)(g:a<536870912)(f:b<536870912):Builtin.Range.small a b (-1)=true:=by
 unfold Builtin.Range.small Builtin.Range.rangeFitsLong;rw[J7];have e:(2:Int)^63=9223372036854775808:=by decide
 rw[e,if_neg (by decide)];refine iz (iz (iz (iz (iz (decide_eq_true ?_) (decide_eq_true ?_)) (iz (decide_eq_true ?_) (decide_eq_true ?_))) (by decide)) (iz (decide_eq_true ?_) (decide_eq_true ?_))) ?_
 ·lia
 ·lia
 ·lia
 ·lia
 ·lia
 ·lia
 ·rw[ahT];exact .inr (iz (decide_eq_true (by lia)) (decide_eq_true (by lia)))
inductive Ih(R:It->Hp->Prop)(vs:List V)(H1:Hp):Prop
 | mk (a b:Int) (_:vs=[.int a,.int b,.int (-1)]) (_ : -1<=a) (_ : -1<=b) (_:a<536870912) (_:b<536870912) (_:R (V3 a (-1) (a - b).toNat) H1)
def Oc(b:TA):TI:=λ a H R=>b a H (Ih R)
theorem Aw{a b c:Expr}{p pos:Pos}(J:Gl X "range")(G:X.mg "range" = none)(L:PA X [a,b,c] t)(F:starEach [a,b,c] X.env=[(pq false (eval a X.env)),(pq false (eval b X.env)),(pq false (eval c X.env))]:=by rfl)
  (j:starEach [b,c] X.env=[(pq false (eval b X.env)),(pq false (eval c X.env))]:=by rfl):PI X tg (.Call (.Name "range" p) [a,b,c] [] pos) (Oc t):=by
 intro u s n H R I h;refine Call_ (dW I J G boot_range (PyProof.Rows.callWith_type1 (S5 (L pos u s n H _ I h) λQ g ⟨P,v,O,w,A⟩=>?_) (by rw[F,j]) (by rw[j];rfl)));obtain⟨x,y,e,C,B,E,D,q⟩:=A;subst e;cases w with
 | cons r i =>
  cases i with
  | cons z i =>
   cases i with
   | cons m i =>
    cases i;obtain⟨d,rfl⟩:=r;obtain⟨k,rfl⟩:=z;obtain⟨f,rfl⟩:=m;refine call_range_3 (by decide) ?_ (.inl (PyProof.noPylong_small (by decide)));refine wpAny_pyIter_range (IsRange.new ..) (Cv C B E D) ?_
    have l:Inv X u n v { g with heap:=g.heap.push { cls:=.type "range",data:=.fields #[.int x d,.int y k,.int (-1) f] },toks:=g.toks }:=O.kept λb o e=>Heap.get?_push_of_some _ e
    refine((g.heap.push { cls:=.type "range",data:=.fields #[.int x d,.int y k,.int (-1) f] }).objs.size,[(g.heap.push { cls:=.type "range",data:=.fields #[.int x d,.int y k,.int (-1) f] }).objs.size],_,_,v,rfl,
     l.kept (t':=g.toks) λb o e=>Heap.get?_push_of_some _ e,p8 _ x (-1) (x - y).toNat,?_,λb K=>?_,q)
    ·have N:x+((0:Nat):Int)*(-1)=x:=by lia
     have M:(((x - y).toNat:Nat):Int) - ((0:Nat):Int)=Builtin.Range.rangeSize x y (-1):=by rw[J7];lia
     show IsRangeIter _ _ (x+((0:Nat):Int)*(-1)) ((((x - y).toNat:Nat):Int) - ((0:Nat):Int)) (-1);rw[N,M];exact Heap.get?_push_size _ rfl
    ·have e:b=(g.heap.push { cls:=.type "range",data:=.fields #[.int x d,.int y k,.int (-1) f] }).objs.size:=by simpa using K
     subst e;exact l.fpOk (aac _) (l.hok.fresh (aac _))
end
end L2
namespace Tw
end Tw
namespace L2
open PySem.Spec PyProof.Rows
section
def Fg(K:PySem.W.Frag)(a:List (Str×Nat))(tt:TT)(b:TE)(σ:St)(Q:VK):It->Hp->Prop:=λJ c=>vP K J (fD a σ) tt b (λD d=>Q (.ref D) d) c
def Om(K:PySem.W.Frag)(b:TI)(a:List (Str×Nat))(tt:TT)(c:TE):TE:=λ σ H Q=>b σ H (Fg K a tt c σ Q)
theorem pU{i:Nat}{y x :Str}{u k pos g:Pos}{F:List (Str×Addr)}{iter:Expr}{U:TI}{tt:TT}(hN:X.N.Nodup)(WW:X.N[i]?=some y)(V:X.env.scope.names.lookup y=some .local)(hc:X.calm=true)
  (E:pH X x qual D scope F)(hi:PI X (.Tuple [.Name x p,.Name qual apos] n u) iter U)
  (ht:∀C B L G,Vz (bJ X (x::qual::D.map (·.1)) scope F C B L G) v tt)(he:∀C B L G,PE (bJ X (x::qual::D.map (·.1)) scope F C B L G) e ta)
  (P:swapsWith (.ListComp e [(.Tuple [.Name x p,.Name qual apos] n u,iter,v,0)] scope pos) (some (.Name y k)) g.line X.env=pure true:=by rfl)(hs:∀x,foldedSetIterable iter X.env x=pure x:=by intro _;rfl):
  PS X (.Assign [.Name y k] (.ListComp e [(.Tuple [.Name x p,.Name qual apos] n u,iter,v,0)] scope pos) g) (HB (Om X.K U D tt ta) (fJ i)):=by
 intro π s σ H W I h;rw[exec_Assign_Name_used _ _ _ _ P];refine wpAny_bind (wpAny_standAt (wpAny_bind ?_));show wpAny _ X.A (do let _ <-comprehension (.ListComp e [(.Tuple [.Name x p,.Name qual apos] n u,iter,v,0)] scope pos) scope X.env _ (newList []) false (eval iter X.env) (some (assign (.Name y k) X.env))) _ _ s;refine wpAny_bind (wpAny_mono (wpAny_comprehension_free (use:=some (assign (.Name y k) X.env)) (Q:=λ_ l=>SP X π W .next l) rfl hs E.o.clos E.o.kind E.o.names
  (S5 (hi π s σ H _ I h) λd B h1=>S5 h1 λa0 s2 h2=>?_)) (λ_ l hq=>wpAny_pure (wpAny_pure hq)) λ_ _ c=>c)
 obtain⟨it,fp,tn,J,H2,c,I2,T,M,f2,Z⟩:=h2;subst c;refine rN (RR:=λS C=>compPost (model X.prog X.w) X.A X.xe (some (assign (.Name y k) X.env)) (λ_ l=>SP X π W .next l) S C) I2 hc E T M f2 ht he Z ?_;intro f C l H' m I' hn j q;show wpAny _ X.A (assign (.Name y k) X.env (.ref f)) _ _ _;refine wpAny_assign_Name (mR (v:=.ref f) I' hN WW (.inl V) rfl (λO WX ch=>(m,?_,λR t=>?_)) (.inr V))
 ·obtain⟨a,Y,r⟩:=ch;refine hn.sameBut Y λqual=>?_;rcases r with r|r
  ·exact j.2.1 (qual.trans r)
  ·exact j.2.2.2.2.1 _ a r qual.symm
 ·exact(_,H',WX.turned (h':=R) (t':=O.toks) (λb o hb c=>t.extBut b o hb c) j.1 j.2.1 j.2.2.2.1 j.2.2.2.2.1 j.2.2.2.2.2,q)
end
end L2
namespace Tw
theorem yd{a b:Addr}{os bs:List Int}{k:L2.St}{tt:TT}(n:Int->Int->Bool)(g:Int->Int->Int)(I:My K H a (os.map V.int))(G:My K H b (bs.map V.int))(L:os.length=bs.length)(hz:os.length<sizeLine)
  (A:∀(x y:Int) (H':Hp) (Q:Bool->Hp->Prop),aO H H'->Q (n x y) H'->tt (some (.int x)::some (.int y)::k) H' Q)
  (J:∀(x y:Int) (H':Hp) (Q:VK),aO H H'->Q (.int (g x y)) H'->ta (some (.int x)::some (.int y)::k) H' Q)
  (q:∀D H',H D=none->aO H H'->H' D=some (.lst ((((os.zip bs).filter λp=>n p.1 p.2).map λp=>g p.1 p.2).map V.int))->B D H'):vP K (V5 K a b) k tt ta B H:=by
 intro D u;exists λi m t s=>m=os.length - i/\i<=os.length/\aO H s/\t=(((((os.zip bs).take i).filter λp=>n p.1 p.2).map λp=>g p.1 p.2).map V.int)/\s D=some (.lst t),(_,rfl,aaK _,az u _,rfl,au);rintro i m t s ⟨rfl,M,h,rfl,d⟩;have w:=h.seq I;have z:=h.seq G;by_cases j:i<os.length
 ·have E:(os.map V.int)[i]?=some (.int os[i]):=by rw[aah,aad j];rfl
  have C:(bs.map V.int)[i]?=some (.int (bs[i]'(by omega))):=by rw[aah,aad (by omega)];rfl
  refine .inr ((_,_,_,_,w,z,E,C),λv N y=>?_);obtain⟨p,x,y,F,rfl,rfl,r,o⟩:=y;have r:=r _ w;have o:=o _ z;rw[E]at r;rw[C]at o;cases r;cases o;have l:=az F (.tup [.int os[i],.int (bs[i]'(by omega))]);have f:(os.zip bs).take (i+1)=(os.zip bs).take i++[(pq (os[i]) (bs[i]'(by omega)))]:=by
   rw[abW,aad (by rw[aiE];lia)];simp
  refine(p,_,_,rfl,S7.of au,A _ _ _ _ (h.trans l) ?_);by_cases c:n os[i] (bs[i]'(by omega))=true
  ·rw[if_pos c];refine J _ _ _ _ (h.trans l) (l _ _ d,?_,os.length - (i+1),by lia,rfl,j,bK (h.trans l) u _,?_,au)
   ·have:=List.length_filter_le (λp:Int×Int=>n p.1 p.2) ((os.zip bs).take i);rw[aaI]at this;rw[aaa,aaa];lia
   ·rw[f,aih,aal,aal];simp[c]
  ·rw[if_neg c];refine(os.length - (i+1),by lia,rfl,j,h.trans l,?_,l _ _ d);rw[f,aih,aal,aal];simp[c]
 ·have e:i=os.length:=by lia
  subst e;refine .inl ((_,_,w,z,.inl (by rw[aaa];exact aac _)),q D s u h ?_);rw[aai (by rw[aiE];lia)]at d;exact d
end Tw
namespace L2
open PySem.Spec PyProof.Rows
section
inductive Rc(x:V)(vs:List V)(H:Hp)(Q:VK):Prop
 | mk (i:_) (_:x=.int i) (_:vs=[]) (_:Q (.int (Builtin.Int.intBits i)) H)
theorem w6:Xq X "int.bit_length" Rc:=by
 intro d s c H x e v f Q I a b h;obtain⟨i,rfl,rfl,q⟩:=h;obtain⟨t,rfl⟩:=a;cases b;exact call_int_bit_length (.int (Builtin.Int.intBits i),H,I.tok _,(_,rfl),q)
end
end L2
namespace Tw
def fG(b:Bool)(t:SetTable):Prop:=t.led=b/\t.place.toList.Pairwise (· < ·)
theorem o6{xs:Array Nat}(h:xs.toList.Pairwise (· < ·)){i j:Nat}(a:i<j)(b:j<xs.size):xs[i]'(by omega)<xs[j]:=by
 have:=abR.mp h i j (by simpa using (by lia:i<xs.size)) (by simpa using b) a;simpa using this
theorem u9{xs:Array Nat}(h:xs.toList.Pairwise (· < ·))(j:Nat):∀(a lo b:Nat),b - lo<=a->lo<=b->b<=xs.size->(∀k (d:k<xs.size),k<lo->xs[k]<j)->(∀k (d:k<xs.size),b<=k->j<=xs[k]) ->
  SetTable.below.go xs j a lo b<=xs.size/\(∀k (d:k<xs.size),k<SetTable.below.go xs j a lo b->xs[k]<j) /\ ∀k (d:k<xs.size),SetTable.below.go xs j a lo b<=k->j<=xs[k]
 | 0,lo,b,n,o,g,f,e=>by
  have:lo=b:=by lia
  subst this;unfold SetTable.below.go;exact(g,f,e)
 | a+1,lo,b,n,o,g,f,e=>by
  unfold SetTable.below.go;by_cases c:lo<b
  ·rw[if_pos c];have l:(lo+b) / 2<xs.size:=by lia
   have p:xs.getD ((lo+b) / 2) j=xs[(lo+b) / 2]:=by simp[ain,l]
   dsimp only;rw[p];by_cases i:xs[(lo+b) / 2]<j
   ·rw[if_pos i];refine u9 h j a _ _ (by lia) (by lia) g (λk d m=>?_) e;rcases aas k ((lo+b) / 2)with z|z
    ·exact ait (o6 h z l) i
    ·have:k=(lo+b) / 2:=by lia
     subst this;exact i
   ·rw[if_neg i];refine u9 h j a _ _ (by lia) (by lia) (by lia) f (λk d m=>?_);rcases aas ((lo+b) / 2) k with z|z
    ·have:=o6 h z d;lia
    ·have:k=(lo+b) / 2:=by lia
     subst this;lia
  ·rw[if_neg c];have:lo=b:=by lia
   subst this;exact(g,f,e)
theorem Ay{xs:Array Nat}(h:xs.toList.Pairwise (· < ·))(j:Nat):SetTable.below xs j<=xs.size/\(∀k (a:k<xs.size),k<SetTable.below xs j->xs[k]<j) /\ ∀k (a:k<xs.size),SetTable.below xs j<=k->j<=xs[k]:=by
 unfold SetTable.below;exact u9 h j xs.size 0 xs.size (by lia) (aaK _) (aac _) (λk _ a=>absurd a (agl _)) (λk a b=>by lia)
theorem Qs{b:Bool}{t:SetTable}(h:fG b t){j:Nat}(q:t.place[SetTable.below t.place j]? ≠ some j):fG b (t.put j).1:=by
 exists h.1;obtain⟨s,r,o⟩:=Ay h.2 j;show (SetTable.insertAt t.place (SetTable.below t.place j) j).toList.Pairwise (· < ·);rw[SetTable.toList_insertAt];generalize SetTable.below t.place j=p at *;have i:∀x∈t.place.toList.take p,x<j:=λx g=>by
  obtain⟨k,f⟩:=abk g;have n:=(aab.mp f).1;rw[aaI]at n;rw[afA (by lia),abT]at f;obtain⟨d,e⟩:=ahx.mp f;rw[<-e];exact r k d (by lia)
 have l:∀x∈t.place.toList.drop p,j<x:=λx g=>by
  obtain⟨k,f⟩:=abk g;rw[age,abT]at f;obtain⟨d,e⟩:=ahx.mp f;have a:=o (p+k) d (by lia);rcases acz k with z|z
  ·subst z;have:x≠j:=λy=>q (by rw[<-y];exact f);lia
  ·have b:=o6 h.2 (show p<p+k by lia) d;have c:=o p (by lia) (aac _);lia
 refine aew.mpr (h.2.sublist (agv _ _),ag5.mpr (l,h.2.sublist (List.drop_sublist _ _)),λx g y m=>?_);rcases aaH.mp m with rfl|m
 ·exact i x g
 ·exact ait (i x g) (l y m)
theorem jN{b:Bool}{t:SetTable}(h:t.led=b)(n:Nat):fG b (t.standIn n):=by
 exists h;show (Array.range n).toList.Pairwise (· < ·);rw[Array.toList_range];exact ahS
theorem Jp{t:SetTable}{j:Nat}(h:∀i,t.slot j ≠ .live i):t.place[SetTable.below t.place j]? ≠ some j:=λe=>by
 refine h (SetTable.below t.place j) ?_;unfold SetTable.slot;simp[e]
theorem uN{t:SetTable}{f:Nat->Int}{h:Int}:∀(a:Nat) (p:SetTable.Probe) (j:Nat) (d:Option Nat),(∀x,p.dummy=some x->t.slot x=.dummy)->SetTable.probe.go t f h a p=some (.empty j d)->t.slot j=.empty /\ ∀x,d=some x->t.slot x=.dummy
 | 0,p,j,d,_,e=>by
  unfold SetTable.probe.go at e;cases e
 | a+1,p,j,d,hd,e=>by
  unfold SetTable.probe.go at e;have g:∀q:SetTable.Probe,(t.advance q).dummy=q.dummy:=λq=>by
   unfold SetTable.advance;split <;> rfl
  cases c:t.slot p.j with
  | empty =>
   rw[c]at e;cases e;exact(c,hd)
  | dummy =>
   rw[c]at e;refine uN a _ j d (λx b=>?_) e;rw[g]at b;cases b;exact c
  | live i =>
   rw[c]at e;dsimp only at e;split at e
   ·cases e
   ·exact uN a _ j d (λx b=>hd x (by rw[g]at b;exact b)) e
theorem wZ{t:SetTable}{j:Nat}{w:Bool}(e:t.freeSlot m=some (pq j w)):∀i,t.slot j ≠ .live i:=by
 unfold SetTable.freeSlot SetTable.probe at e;split at e
 ·rename_i a d c;cases e;obtain⟨g,f⟩:=uN _ _ _ _ (λx b=>by cases b) c;cases d with
  | none =>
   intro i z;rw[show (none:Option Nat).getD a=a from rfl,g]at z;cases z
  | some x =>
   intro i z;rw[show (some x:Option Nat).getD a=x from rfl,f x rfl]at z;cases z
 ·cases e
theorem zf{b:Bool}{t:SetTable}(h:fG b t)(n:Nat):fG b (t.orStandIn n):=by
 unfold SetTable.orStandIn;split
 ·exact h
 ·exact jN h.1 n
theorem Io{b:Bool}{t:SetTable}(h:fG b t)(c:Array (Int×Value))(i:Int)(x:Value):fG b (layNew t c i x).2.1:=by
 unfold layNew;split
 ·rename_i a w e;exact zf (Qs h (Jp (wZ e))) _
 ·exact jN h.1 _
theorem Ml{m f v:Nat}{l p:Bool}{g:Array Int}{t:SetTable}{o:Array Nat}(e:SetTable.laid m f v l p g=some (pq t o)):fG l t:=by
 unfold SetTable.laid at e;cases h:SetTable.layClean m g with
 | none =>
  rw[h]at e;cases e
 | some j =>
  rw[h]at e;cases e;exists rfl;show (List.toArray _).toList.Pairwise (· < ·);rw[aio];refine List.Pairwise.filterMap _ (R:=(· < ·)) (λa n d b i k c=>?_) ahS;obtain⟨x,_,rfl⟩:=abu.mp i;obtain⟨y,_,rfl⟩:=abu.mp c;exact d
theorem Bv{b:Bool}{t:SetTable}(h:fG b t)(a:Array (Int×Value))(n:Nat):fG b (relayAll t a n).2.1:=by
 unfold relayAll;split
 ·rename_i c o e;dsimp only;split
  ·have:=Ml e;rw[h.1]at this;exact this
  ·exact jN h.1 _
 ·exact jN h.1 _
theorem JX{b:Bool}{t:SetTable}(h:fG b t):fG b { t with plain:=false }:=h
open PySem.Spec PyProof.Rows
section
variable{α β:Type}
theorem Ij{f:α->β}{k l:List β}(h:afv k l):∀L:List α,L.map f=l -> ∃g,afv g L/\g.map f=k:=by
 induction h with
 | nil =>
  intro L e;exact(L,.rfl,e)
 | cons x p r =>
  intro L e;cases L with
  | nil=>cases e
  | cons a L =>
   rw[aaA]at e;injection e with d c
   obtain⟨g,o,t⟩:=r L c;exact(a::g,o.cons a,by rw[aaA,t,d])
 | swap x y l =>
  intro L e
  match L,e with
  | a::b::L,e =>
   rw[aaA,aaA]at e;injection e with d c
   injection c with c s
   exact(b::a::L,.swap a b L,by rw[aaA,aaA,d,c,s])
 | trans p q j i =>
  intro L e;obtain⟨v,n,d⟩:=i L e;obtain⟨u,m,c⟩:=j v d;exact(u,m.trans n,c)
end
section
variable{K:Type}[DecidableEq K]{knd:KeyKind prog w K}{b:Bool}
structure lM(knd:KeyKind prog w K)(es:List (Int×Value))(ks:List K)(ps:List (K×(Int×Value))):Prop where
 snd:ps.map (·.2)=es
 fst:afv (ps.map (·.1)) ks
 is:∀p∈ps,knd.is p.1 p.2.2=true/\p.2.1=knd.hash p.1/\p.2.2.scannable=true
theorem lM.elems{c:List K}{ps:List (K×(Int×Value))}(h:lM knd Y c ps):ElemsOf knd Y:=λe a=>by
 rw[<-h.snd]at a;obtain⟨p,d,rfl⟩:=abl.mp a;obtain⟨i,g,f⟩:=h.is p d;exact((p.1,i,g),f)
theorem lM.size{a:List K}{ps:List (K×(Int×Value))}(h:lM knd Y a ps):Y.length=a.length:=by
 rw[<-h.snd,aaa,<-h.fst.length_eq,aaa]
theorem lM.mem{d:List K}{ps:List (K×(Int×Value))}(h:lM knd Y d ps)(k:K):k∈d ↔ ∃e∈Y,knd.is k e.2=true:=by
 rw[<-h.fst.mem_iff];constructor
 ·intro c;obtain⟨p,a,rfl⟩:=abl.mp c;exact(p.2,by rw[<-h.snd];exact abl.mpr (p,a,rfl),(h.is p a).1)
 ·rintro⟨e,f,c⟩;rw[<-h.snd]at f;obtain⟨p,a,rfl⟩:=abl.mp f;have:=knd.inj _ _ _ c (h.is p a).1;rw[this];exact abl.mpr (p,a,rfl)
theorem lM.perm{c:List (Int×Value)}{f:List K}{ps:List (K×(Int×Value))}(h:lM knd Y f ps)(p:afv c Y):∃a,lM knd c f a:=by
 obtain⟨a,d,e⟩:=Ij p ps h.snd;exact(a,e,(d.map _).trans h.fst,λq g=>h.is q (d.mem_iff.mp g))
theorem lM.push{c:List K}{ps:List (K×(Int×Value))}(h:lM knd Y c ps){k:K}{x:Value}(e:knd.is k x=true)(d:x.scannable=true):lM knd (Y++[(pq (knd.hash k) x)]) (c++[k]) (ps++[(pq k ((pq (knd.hash k) x)))]):=by
 refine(by rw[aal,h.snd];rfl,by rw[aal];exact h.fst.append_right _,λp a=>?_);rcases abn.mp a with a|a
 ·exact h.is p a
 ·rw[aaj.mp a];exact(e,rfl,d)
def jo(b:Bool)(knd:KeyKind prog w K)(h:Heap)(a:Addr)(e:List K):Prop:=
 ∃o c f t d,h.get? a=some o/\o.ExactSet/\o.data=.set c f t/\c.size<scanBound/\t.fits c.size=true/\fG b t/\lM knd c.toList e d
theorem K8{a:Addr}{o:Obj}{l:Array (Int×Value)}{t:SetTable}(i:h'.get? a=some o)(d:o.ExactSet)(hd:o.data=.set l n t)
  {c:Array (Int×Value)}{t':SetTable}{e:List K}{ps:List (K×(Int×Value))}(k:c.size<scanBound)(j:t'.fits c.size=true)(ht:fG b t')(f:lM knd c.toList e ps):
  (h'.update a (Obj.putSet c t')).get? a=some { o with data:=.set c (n+1) t' }/\jo b knd (h'.update a (Obj.putSet c t')) a e:=by
 have g:=Heap.get?_update_self (Obj.putSet c t') i (by rw[putSet_of c t' hd];rfl);rw[putSet_of c t' hd]at g;exact(g,_,c,n+1,t',ps,g,d,rfl,k,j,ht,f)
theorem O4{g:Bool->Sem Unit}(G:∀(c:Bool) (u:Shared) (Q1:Unit->Shared->Prop),Q1 () u->wpAny (model prog w) A (g c) Q1 E u)
  {a:Addr}{o:Obj}{I d:Array (Int×Value)}{t :SetTable}{v:List K}{ps:List (K×(Int×Value))}{C:Bool}{R:Option Bool->Shared->Prop}
  (y:s.heap.get? a=some o)(e:o.ExactSet)(hd:o.data=.set I n t)(l:d.size<scanBound)(H:J.fits d.size=true)(ht:fG b J)(x:lM knd d.toList v ps)
  (h:∀m,Heap.SameBut a s.heap m->jo b knd m a v->R (some true) { s with heap:=m }):
  wpAny (model prog w) A (do
   storeSet a d J
   if (!C && J.tooFull)=true then do
    g (relayAll J d (SetTable.grown d.size)).2.2
    storeSet a (relayAll J d (SetTable.grown d.size)).1 (relayAll J d (SetTable.grown d.size)).2.1
    pure (some true)
   else pure (some true)) R E s:=by
 obtain⟨z,D⟩:=K8 (knd:=knd) y e hd l H ht x;have B:=Heap.SameBut.update s.heap a (Obj.putSet d J);refine wpAny_bind (wpAny_storeSet_of y hd ?_ (fits_of_scanBound l));split
 ·have j:=relayAll_perm J d (SetTable.grown d.size);have p:=relayAll_fits J d (SetTable.grown d.size);have k:=Bv ht d (SetTable.grown d.size);generalize relayAll J d (SetTable.grown d.size)=r at j p k ⊢;obtain⟨i,M,N⟩:=r;dsimp only at j p k ⊢;obtain⟨L,q⟩:=x.perm j;have F:i.size=d.size:=by simpa using j.length_eq
  have f:i.size<scanBound:=F ▸ l;refine wpAny_bind (G _ _ _ (wpAny_bind (wpAny_storeSet_of z rfl ?_ (fits_of_scanBound f))));exact wpAny_pure (h _ (B.trans (Heap.SameBut.update _ a _)) (K8 (knd:=knd) z e rfl f p k q).2)
 ·exact wpAny_pure (h _ B D)
theorem Nt{a:Addr}{d:List K}{k:K}{x:Value}{Q:Bool->Shared->Prop}(f:knd.is k x=true)(l:x.scannable=true)(Y:jo b knd s.heap a d)(P:d.length+1<scanBound)
  (h:∀g,Heap.SameBut a s.heap g->jo b knd g a (if k∈d then d else d++[k])->Q (!decide (k∈d)) { s with heap:=g }):
  wpAny (model prog w) A (setAddHashed a x (knd.hash k)) Q E s:=by
 obtain⟨o,i,Z,t,U,u,m,hd,T,H,ht,r⟩:=Y;have C:=r.elems;have hn:i.size=d.length:=by simpa using r.size
 unfold setAddHashed setAddHashedIn;refine wpAny_holding (wpAny_bind (wpAny_setState_of u hd H ?_));dsimp only;rw[byScan_of l T C,if_pos rfl];unfold setAddByScan;refine wpAny_bind (wpAny_bind (wpAny_rule (wpAny_bind (wpAny_setScan_of f u hd H C ?_))));have S:=r.mem k;cases R:List.findIdx? (λe=>knd.is k e.2) i.toList with
 | some j =>
  obtain⟨W,N,_⟩:=List.findIdx?_eq_some_iff_getElem.mp R;have v:k∈d:=S.mpr (_,abX W,N);have e:s={ s with heap:=s.heap }:=by cases s;rfl
  have q:=h s.heap (Heap.SameBut.refl a s.heap) (by rw[if_pos v];exact(o,i,Z,t,U,u,m,hd,T,H,ht,r));rw[decide_eq_true v]at q;dsimp only;rw[e];exact wpAny_pure (wpAny_pure q)
 | none =>
  have v:¬k∈d:=λz=>by
   obtain⟨e,X,V⟩:=S.mp z;have:=List.findIdx?_eq_none_iff.mp R e X;rw[V]at this;cases this
  rw[if_neg v,decide_eq_false v]at h;dsimp only;have n:=layNew_perm t i (knd.hash k) x;have y:=layNew_fits t i (knd.hash k) x;have p:=Io ht i (knd.hash k) x;generalize layNew t i (knd.hash k) x=L at n y p ⊢;obtain⟨O,t1,wd,gv⟩:=L;dsimp only at n y p ⊢;rw[af8]at n;obtain⟨a0,B⟩:=(r.push f l).perm n;have D:O.size<scanBound:=by
   have:=n.length_eq;rw[aaf,afC,aae,aae]at this;lia
  have G:∀(c:Bool) (F:Shared) (M:Unit->Shared->Prop),M () F->wpAny (model prog w) A (match c with|true=>rule "set.scan.the-table-gave-way" | false=>pure ()) M E F:=λc F M q=>by
   cases c
   ·exact wpAny_pure q
   ·exact wpAny_rule q
  refine wpAny_bind (G _ _ _ ?_);split
  ·refine wpAny_bind ?_;rw[hashByValue_scannable 8 l];refine wpAny_pure (O4 (b:=b) G u m hd D ?_ ?_ B λg J I=>?_)
   ·split
    ·exact y
    ·exact SetTable.fits_plain_off y
   ·split
    ·exact p
    ·exact JX p
   ·exact wpAny_pure (h g J I)
  ·refine wpAny_bind (wpAny_pure ?_);rw[if_pos rfl];exact O4 (b:=b) G u m hd D y p B λg J I=>wpAny_pure (h g J I)
end
section
variable{K:Type}[DecidableEq K]
def met(f:Nat->K):Nat->List K
 | 0=>[]
 | n+1=>if f n∈met f n then met f n else met f n++[f n]
theorem tZ(f:Nat->K):∀(n:Nat) (k:K),k∈met f n ↔ ∃i,i<n/\f i=k
 | 0,k=>by simp[met]
 | n+1,k=>by
  unfold met;have a:=tZ f n;constructor
  ·intro h;split at h
   ·obtain⟨i,c,b⟩:=(a k).mp h;exact(i,by lia,b)
   ·rcases abn.mp h with h|h
    ·obtain⟨i,c,b⟩:=(a k).mp h;exact(i,by lia,b)
    ·exact(n,by lia,(aaj.mp h).symm)
  ·rintro⟨i,c,rfl⟩;rcases aas i n with z|z
   ·have:=(a (f i)).mpr (i,z,rfl);split
    ·exact this
    ·exact afU _ this
   ·have e:i=n:=by lia
    subst e;split
    ·assumption
    ·exact aav _ (aaj.mpr rfl)
theorem mV(f:Nat->K):∀n:Nat,(met f n).Nodup
 | 0=>.nil
 | n+1=>by
  unfold met;split
  ·exact mV f n
  ·rename_i h;refine ahG.mpr (mV f n,by simp,λa d b c e=>?_);rw[aaj.mp c]at e;exact h (e ▸ d)
theorem uq(f:Nat->K):∀n:Nat,(met f n).length<=n
 | 0=>aac _
 | n+1=>by
  unfold met;have:=uq f n;split
  ·lia
  ·rw[aaf,afC];lia
theorem Ar(f:Nat->K){i:Nat}:∀n:Nat,i<=n->(met f i).length<=(met f n).length
 | 0,h=>by
  have:i=0:=by lia
  subst this;exact aac _
 | n+1,h=>by
  rcases aas i (n+1)with z|z
  ·have:=Ar f n (show i<=n by lia);show _<=(if f n∈met f n then met f n else met f n++[f n]).length;split
   ·exact this
   ·rw[aaf];lia
  ·have:i=n+1:=by lia
   subst this;exact aac _
end
section
variable{K:Type}[DecidableEq K]{knd:KeyKind prog w K}{I:Addr}{fp wr:List Addr}{G:Array GenState->Array GenState->Prop}{P:Nat->Value->Prop}{St:Nat->Shared->Prop}{b:Bool}
theorem jo.at{h':Heap}{a:Addr}{c:List K}(g:jo b knd base a c)(e:∀o,base.get? a=some o->h'.get? a=some o):jo b knd h' a c:=by
 obtain⟨o,i,j,t,d,f,r⟩:=g;exact(o,i,j,t,d,e o f,r)
theorem Rb(W:WalksS prog w A.in1 I fp wr G n P St)(S:Addr)(t:S∉fp)(f:Nat->K)(Q:∀i v,P i v->knd.is (f i) v=true/\v.scannable=true)(T:(met f n).length+1<scanBound):
  ∀(k i:Nat) (s:Shared),n - i=k->i<=n->St i s->jo b knd s.heap S (met f i) ->
   (∀a,Moved (S::wr) G s a->jo b knd a.heap S (met f n)->R (.ok (.ret .none)) a) ->
   codeAny (model prog w) A (.builtin "set.update.loop" ([.ref S,.ref I],[])) R s:=by
 have B:S∉wr:=λz=>t (W.sub _ z);have l:∀c∈wr,c∈S::wr:=λc j=>.tail _ j;intro k
 induction k with
 | zero =>
  intro i s O C d x q;obtain rfl:i=n:=by lia
  refine codeAny_builtin PyProof.Rows.F.entry_set_update_loop ?_;rw[Around.under_plainId PyProof.Rows.F.plain_set_update_loop _];refine wpAny_bind (m:=pyNext (.ref I)) (W.done s _ _ d λa h=>?_);exact wpAny_pure (q a (h.mono l) (x.at λo e=>h.heap S _ B e))
 | succ k M =>
  intro i s O C d x q;have p:i<n:=by lia
  refine codeAny_builtin PyProof.Rows.F.entry_set_update_loop ?_;rw[Around.under_plainId PyProof.Rows.F.plain_set_update_loop _];refine wpAny_bind (m:=pyNext (.ref I)) (W.item i s _ _ p d λv a N u h=>?_);obtain⟨r,y⟩:=Q i v N;refine wpAny_bind (m:=holding [v] (setAdd S v)) (wpAny_holding ?_);unfold setAdd;refine wpAny_holding (wpAny_bind (knd.pyHash r ?_));have g:(met f i).length+1<scanBound:=by
   have:=Ar f n C;lia
  refine Nt (s:={ a with toks:=a.toks+1 }) r y (x.at λo e=>h.heap S _ B e) g λU D H=>?_;refine wpAny_pure (plainId_quiet PyProof.Rows.F.plain_set_update_loop _,M (i+1) _ (by lia) p (W.frame _ a _ _ u (agj _) λc j o e=>?_) H λJ L E=>?_)
  ·rw[D.2 c (λz:c=S=>t (z ▸ j))];exact e
  ·refine q J (Moved.trans W.gtrans ((h.mono l).then_heap (agj _) λc o j e=>?_) L) E;rw[D.2 c (λz:c=S=>j (by rw[z];exact .head _))];exact e
theorem QB(b:Bool){a:Addr}(e:h'.get? a=some { cls:=.type "set",dict:=none,data:=.set #[] 0 (.fresh 0 0 b) }):jo b knd h' a []:=
 (_,#[],0,_,[],e,(rfl,rfl,rfl),rfl,by decide,rfl,(rfl,.nil),rfl,.nil,λp c=>by cases c)
end
section
variable{K:Type}[DecidableEq K]{knd:KeyKind prog w K}
def cR(w:World):Bool:=!w.params.followText "set-order"
abbrev newS(w:World):Obj:={ cls:=.type "set",dict:=none,data:=.set #[] 0 (.fresh 0 0 (cR w)) }
theorem Jj(x:Value){Q:Value->Shared->Prop}(h:Q (.ref s.heap.objs.size) { s with heap:=s.heap.push (newS w) }):
  codeAny (model prog w) A (.call (.builtin "set.__new__") ([.type "set",x],[])) (wants Q E) s:=by
 refine codeAny_of_tree ?_
 refine wpAny_bind (m:=checkBuiltinCall "set.__new__" ([.type "set",x],[])) (wpAny_of_eq (PySem.F.newCall_set_1 x) (wpAny_pure (plainId_quiet PySem.F.plain_set_new _,codeAny_builtin PySem.F.entry_set_new ?_)))
 rw[Around.under_plainId PySem.F.plain_set_new _];unfold Builtin.«set.__new__» Builtin.Frozenset.newClass;have a:=PySem.sub_set_self;obtain⟨e,g,d,b,c⟩:=s;dsimp only
 wp_walk
 refine wpAny_askSetting (wpAny_pure ?_);dsimp only;simp only[newObj];refine wpAny_bind (wpAny_alloc (wpAny_pure ?_));exact wpAny_pure h
set_option maxRecDepth 100000 in
set_option maxHeartbeats 3200000 in
theorem xX{l:Addr}{f:Nat->K}{Q:Value->Shared->Prop}(hh:A.handled=none)(hl:s.heap.IsList l I)(hf:∀i v,I[i]?=some v->knd.is (f i) v=true/\v.scannable=true)(hb:(met f I.size).length+1<scanBound)
  (h:∀(a:Heap) (tk:Nat),jo (cR w) knd a s.heap.objs.size (met f I.size)->(∀c o,c<s.heap.objs.size->s.heap.get? c=some o->a.get? c=some o)->Q (.ref s.heap.objs.size) { s with heap:=a,toks:=tk }):
  wpAny (model prog w) A (call (.type "set") [.ref l]) Q E s:=by
 obtain⟨c,tl,T⟩:=PySem.F.called_set.mro;have G:=PySem.F.called_set.made;have S:=PySem.F.called_set.sub
 refine wpAny_call (codeAny_of_tree (show wpAny _ _ (callAny (.type "set") _) _ _ _ from ?_))
 refine wpAny_pure (Code.quiet_builtin _ (by decide +kernel),codeAny_builtin PySem.F.entry_type_call ?_)
 rw[Around.under_plain (weight_type_call_type "set" [.ref l] []) rfl]
 have n1:=PySem.F.called_set.notType;have n2:=PySem.F.called_set.canCreate;have n3:=PySem.F.typeCall_set_1 (.ref l)
 repeat (any_goals (first|assumption|wp_step))
 refine codeAny_mono (Jj (.ref l) (E:=E) (Q:=λL J=>L=.ref s.heap.objs.size/\J={ s with heap:=s.heap.push (newS w) }) (rfl,rfl)) λr J x=>?_;cases r with
 | error e=>exact x
 | ok fl =>
  cases fl with
  | ret L =>
   obtain⟨rfl,rfl⟩:=x;have O:(s.heap.push (newS w)).get? s.heap.objs.size=some (newS w):=Heap.get?_push_size _ rfl
   have hT:Shared.TypeIs { s with heap:=s.heap.push (newS w) } (.ref s.heap.objs.size) "set":=(_,O,rfl)
   have i1:=PySem.F.called_set.init.lookup;have i2:=PySem.F.called_set.init.bind (.ref s.heap.objs.size)
   repeat (any_goals (first|assumption|wp_step))
   refine codeAny_mono (codeAny_call_builtin (R:=wants (λr H=>r=.none /\ ∃a tk,H={ s with heap:=a,toks:=tk }/\jo (cR w) knd a s.heap.objs.size (met f I.size)/\(∀c o,c<s.heap.objs.size->s.heap.get? c=some o->a.get? c=some o)) E)
    PySem.F.called_set.init.plain PySem.F.entry_set_init (check_set_init_1 hT ?_)) λX H g=>?_
   ·obtain⟨Y,k,q,M,p⟩:=hl;obtain⟨P,j,D,d⟩:=Y;simp only at q p;subst q;subst p
    have e1:(s.heap.push (newS w)).get? l=some { cls:=.type "list",dict:=j,data:=.seq I M,slots:=d }:=Heap.get?_push_of_some _ k
    have q1:=PySem.F.sub_list_set;have q2:=PySem.F.sub_list_frozenset
    have q3:(Value.type "list" == Value.type "dict")=false:=by decide
    have n:(s.heap.push (newS w)).IsList l I:=(_,e1,rfl,M,rfl);unfold Builtin.«set.__init__» noKeywords Builtin.Frozenset.updateFrom;generalize C:pyIter=PI
    wp_walk
    subst C;refine wpAny_pyIter_list n (wpAny_bind (wpAny_runValue ?_));have m:l<s.heap.objs.size:=Heap.lt_size k;have u:(s.heap.push (newS w)).objs.size=s.heap.objs.size+1:=Heap.size_push ..;have h3:A.in1.in1.in1.handled=none:=by simp[hh]
    have n4:l≠(s.heap.push (newS w)).objs.size:=by rw[u];exact aaq (agy m)
    have Z:s.heap.objs.size∉[(s.heap.push (newS w)).objs.size,l]:=λz=>by
     rcases aaH.mp z with z|z
     ·exact absurd (z.trans u) (aaq (agf _))
     ·exact absurd (aaj.mp z).symm (aaq m)
    refine Rb (b:=cR w) (knd:=knd) ((Walks.list h3 _ l n4 I).toS) s.heap.objs.size Z f hf hb (I.size - 0) 0 _ (by lia) (aaK _) ((_,Heap.get?_push_size _ rfl,rfl,rfl),n.push _) (QB (cR w) (Heap.get?_push_of_some _ O)) λW t U=>?_;obtain⟨a,g1,d1,y,B⟩:=W;have eg:g1=s.gens:=t.gens;have ed:d1=s.drawn:=t.drawn;have eo:B=s.os:=t.os;subst eg;subst ed;subst eo;refine wpAny_pure (show wpAny _ _ (ret Value.none) _ _ _ from wpAny_pure (rfl,a,y,rfl,U,λc o N e=>?_));refine t.heap c o (λz=>?_) (Heap.get?_push_of_some _ (Heap.get?_push_of_some _ e));rcases aaH.mp z with z|z
    ·exact absurd z (aaq N)
    ·exact absurd ((aaj.mp z).trans u) (aaq (agy N))
   ·cases X with
    | error e=>exact g
    | ok Yr =>
     cases Yr with
     | ret r =>
      obtain⟨rfl,a,tk,rfl,V,k1⟩:=g
      repeat (any_goals (first|assumption|wp_step))
      exact h _ _ V k1
     | _=>exact g.elim
  | _=>exact x.elim
end
set_option maxRecDepth 100000
theorem eZ:Slot "set_iterator" "__next__" "set_iterator.__next__":=
 Slot.of (id := "set_iterator.__next__") (owner := "set_iterator") (n := "__next__") (by rw[typeLookup_type,builtinLookup_eq_fast];kernel_rfl) (by decide +kernel) (by decide +kernel) (by decide +kernel) (by first|exact .inl (by decide +kernel) | exact .inr (by decide +kernel)) (by rw[isSubtype_type];kernel_rfl)
theorem fV:entryFor table "set_iterator.__next__" = some Builtin.«set_iterator.__next__»:=entryFor_of_fast (by kernel_rfl)
theorem gW(x:Value):argsOk "set_iterator.__next__" ([x],[]):=by unfold argsOk;kernel_rfl
theorem Gi:Slot "set_iterator" "__iter__" "set_iterator.__iter__":=
 Slot.of (id := "set_iterator.__iter__") (owner := "set_iterator") (n := "__iter__") (by rw[typeLookup_type,builtinLookup_eq_fast];kernel_rfl) (by decide +kernel) (by decide +kernel) (by decide +kernel) (by first|exact .inl (by decide +kernel) | exact .inr (by decide +kernel)) (by rw[isSubtype_type];kernel_rfl)
theorem wX:entryFor table "set_iterator.__iter__" = some Builtin.«dict_keyiterator.__iter__»:=entryFor_alias (id' := "dict_keyiterator.__iter__") (by kernel_rfl) rfl (by decide +kernel) (by kernel_rfl)
theorem zM(x:Value):argsOk "set_iterator.__iter__" ([x],[]):=by unfold argsOk;kernel_rfl
theorem u5:entryFor table "set.__iter__" = some Builtin.«frozenset.__iter__»:=entryFor_alias (id' := "frozenset.__iter__") (by kernel_rfl) rfl (by decide +kernel) (by kernel_rfl)
set_option maxRecDepth 100000
section
abbrev Ux(first:Value)(i:Int)(a:Value)(n b:Nat):Obj:={ cls:=.type "set_iterator",data:=.fields #[first,.int i 0,a,.int n 0,.int b 0] }
structure cD(h:Heap)(S:Addr)(o:Obj)(es:Array (Int×Value))(ep:Nat)(t:SetTable):Prop where
 get:h.get? S=some o
 dat:o.data=.set es ep t
 fit:t.fits es.size=true
theorem GR{o:Obj}{c:Array (Int×Value)}{nx i:Nat}{t:SetTable}{x:Value}{Q:Option Value->Shared->Prop}(b:s.heap.get? a=some (Ux (.int U 0) i (.ref f) c.size n))(d:cD s.heap f o c n t)
  (e:∀(q:Around) (j:Option (Value×Nat)->Shared->Prop) (p:Value->Shared->Prop),j (some (pq x nx)) s->wpAny (model prog w) q (setNext f U i n) j p s)
  (k:∀h',h'.get? a=some (Ux (.int nx 0) (i+1:Nat) (.ref f) c.size n)->Heap.SameBut a s.heap h'->Q (some x) { s with heap:=h' }):wpAny (model prog w) A (pyNext (.ref a)) Q E s:=by
 have g:s.TypeIs (.ref a) "set_iterator":=(_,b,rfl)
 unfold pyNext
 refine wpAny_bind (wpAny_attempt (wpAny_callSpecial?_slot (name:=Str.ofString "__next__") g eZ (wpAny_call_entry eZ g fV ?_ (gW _))))
 unfold Builtin.«set_iterator.__next__»
 refine wpAny_bind (m:=slotArgs "__next__" 0 _) (wpAny_pure ?_)
 refine wpAny_bind (wpAny_fieldsOf b rfl ?_);dsimp only;refine wpAny_bind (wpAny_setEntries_of d.get d.dat d.fit ?_);rw[if_neg (by simp)];rw[abS,abS,abS];refine wpAny_bind (e _ _ _ ?_);dsimp only;refine wpAny_bind (wpAny_setField b rfl (by simp) ?_);have h:(s.heap.update a (Obj.mapFields (·.setIfInBounds 0 (rawInt nx)))).get? a=some (Ux (.int nx 0) i (.ref f) c.size n):=Heap.get?_update_self _ b rfl;refine wpAny_bind (wpAny_setField (s:={ s with heap:=s.heap.update a (Obj.mapFields (·.setIfInBounds 0 (rawInt nx))) }) h rfl (by simp) ?_);have l:((s.heap.update a (Obj.mapFields (·.setIfInBounds 0 (rawInt nx)))).update a (Obj.mapFields (·.setIfInBounds 1 (rawInt ((i:Int)+1))))).get? a=some (Ux (.int nx 0) (i+1:Nat) (.ref f) c.size n):=Heap.get?_update_self _ h rfl;exact wpAny_pure (x,rfl,wpAny_pure (k _ l ((Heap.SameBut.update ..).trans (Heap.SameBut.update ..))))
theorem next_end{o:Obj}{h:Array (Int×Value)}{i:Nat}{t:SetTable}{Q:Option Value->Shared->Prop}(k:A.handled=none)(c:s.heap.get? a=some (Ux (.int U 0) i (.ref f) h.size n))(d:cD s.heap f o h n t)
  (e:∀(q:Around) (j:Option (Value×Nat)->Shared->Prop) (p:Value->Shared->Prop),j none s->wpAny (model prog w) q (setNext f U i n) j p s)
  (l:∀h',Heap.ExtBut a s.heap h'->Q none { s with heap:=h' }):wpAny (model prog w) A (pyNext (.ref a)) Q E s:=by
 have g:s.TypeIs (.ref a) "set_iterator":=(_,c,rfl)
 unfold pyNext
 refine wpAny_bind (wpAny_attempt (wpAny_callSpecial?_slot (name:=Str.ofString "__next__") g eZ (wpAny_call_entry eZ g fV ?_ (gW _))))
 unfold Builtin.«set_iterator.__next__»
 refine wpAny_bind (m:=slotArgs "__next__" 0 _) (wpAny_pure ?_)
 refine wpAny_bind (wpAny_fieldsOf c rfl ?_);dsimp only;refine wpAny_bind (wpAny_setEntries_of d.get d.dat d.fit ?_);rw[if_neg (by simp),abS,abS,abS];refine wpAny_bind (e _ _ _ ?_);dsimp only;refine wpAny_bind (wpAny_setField c rfl (by simp) ?_)
 refine wpAny_bind (m:=newExc (.type "StopIteration") []) ?_
 simp only[newExc,newTuple];refine wpAny_bind (wpAny_newObj_type ?_ (by size_fits));refine wpAny_bind (m:=firstArgMember _ _) (wpAny_of_eq (a:=Value.none) (by first|rfl | (simp only[firstArgMember];rfl)) ?_);refine wpAny_newObj_type ?_ (by size_fits);simp only[raiseNew];refine wpAny_bind (wpAny_handled ?_);rw[show A.in1.handled=none from k];refine wpAny_bind (wpAny_pure (wpAny_throw ?_))
 refine wpAny_bind (wpAny_isInstance (T := "StopIteration") (b:=true) (_,Heap.get?_push_size _ rfl,rfl) isSubtype_stop ?_)
 exact wpAny_pure (l _ (((Heap.SameBut.update ..).extBut.push _).push _))
end
theorem nM{b:Type}:∀{l:List b}{i:Nat}{x:b},l[i]?=some x->afv (x::l.eraseIdx i) l
 | [],i,x,h=>by simp at h
 | a::l,0,x,h=>by
  cases h;exact .rfl
 | a::l,i+1,x,h=>by
  rw[List.eraseIdx_cons_succ];exact(List.Perm.swap a x _).trans ((nM (by simpa using h)).cons a)
theorem Gq{c:Type}(nx:Nat->Nat):∀(a k:Nat) (left:List c) (out:Array c),left.length=a->afv (pickOrder.go nx a k left out).toList (out.toList++left)
 | 0,k,left,out,h=>by
  have:left=[]:=ahj h;subst this;unfold pickOrder.go;simp
 | a+1,k,left,out,h=>by
  have b:nx k%left.length<left.length:=aiV _ (by lia);have e:=aad b;unfold pickOrder.go;rw[e];refine(Gq nx a (k+1) _ _ (by rw[ahy b];lia)).trans ?_;rw[af8,abm];exact(nM e).append_left _
theorem qW(nx:Nat->Nat)(xs:Array O):afv (pickOrder nx xs).toList xs.toList:=by
 have:=Gq nx xs.size 0 xs.toList #[] (by simp);rw[ag1]at this;exact this
section
variable{o:Obj}{es:Array (Int×Value)}{ep:Nat}{t:SetTable}
theorem mQ{Q:Bool->Shared->Prop}(h:Q (!cR w) s):wpAny (model prog w) A setsByText Q E s:=by
 unfold setsByText;refine wpAny_bind (wpAny_askSetting (wpAny_pure ?_));unfold cR at h;rw[aiS]at h;exact h
theorem BR(a:cD s.heap S o es ep t)(ht:cR w=false){i:Nat}{Q:Option (Value×Nat)->Shared->Prop}(h:Q (((pickOrder (w.params.setOrder S ep) es)[i]?).map λe=>(pq e.2 n)) s):wpAny (model prog w) A (setNext S n i ep) Q E s:=by
 unfold setNext;refine wpAny_bind (wpAny_setState_of a.get a.dat a.fit ?_);dsimp only;refine wpAny_bind (mQ ?_);rw[ht];simp only[aiJ,if_true,bne_self_eq_false,acr,if_false];refine wpAny_bind ?_;unfold setWalk;refine wpAny_bind (wpAny_setState_of a.get a.dat a.fit ?_);dsimp only;refine wpAny_bind (mQ ?_);rw[ht];simp only[aiJ,if_true];refine wpAny_bind (wpAny_askSetting (wpAny_pure (wpAny_pure h)))
theorem yt(a:cD s.heap S o es ep t)(ht:cR w=true)(c:t.led=true)(b:¬((!t.plain && decide (es.size > 1))=true)){i:Nat}{Q:Option (Value×Nat)->Shared->Prop}
  (h:Q (match es[SetTable.below t.place n]?,t.place[SetTable.below t.place n]? with|some (_,x),some j=>some (pq x (j+1)) | _,_=>none) s):wpAny (model prog w) A (setNext S n i ep) Q E s:=by
 unfold setNext;refine wpAny_bind (wpAny_setState_of a.get a.dat a.fit ?_);dsimp only;refine wpAny_bind (mQ ?_);rw[ht];simp only[aiO,acr,if_false];split
 ·rename_i d;exact absurd d b
 refine wpAny_bind (show wpAny _ _ (if (!t.led && !es.isEmpty)=true then unsupported "set:maker-not-led" else pure PUnit.unit) _ _ _ from ?_)
 rw[c,aiO,aiH,if_neg aar];exact wpAny_pure (wpAny_pure h)
theorem HN(a:cD s.heap S o es ep t){k:Nat}{e:Int×Value}(b:es[k]?=some e){Q:Value->Shared->Prop}(h:Q e.2 s):wpAny (model prog w) A (setNextDrawn S k ep) Q E s:=by
 unfold setNextDrawn;refine wpAny_bind (wpAny_setState_of a.get a.dat a.fit ?_);dsimp only;rw[bne_self_eq_false,if_neg aar,b];exact wpAny_pure h
theorem Gw{c:Type}:∀(n:Nat) (xs:List c) (s:Shared) {Q:List c->Shared->Prop},xs.length=n->(∀l d,afv l xs->Q l { s with drawn:=d })->wpAny (model prog w) A (drawOrder n xs) Q E s
 | 0,xs,s,Q,a,h=>by
  have:xs=[]:=ahj a;subst this;unfold drawOrder;have:=h [] s.drawn .rfl;exact wpAny_pure this
 | n+1,[],s,Q,a,h=>by simp at a
 | n+1,x::xs,s,Q,a,h=>by
  unfold drawOrder;refine wpAny_bind ?_;intro Γ p hΓ;rw[show (choose Source.order (x::xs).length:Sem Nat)=Sem.choose .order (x::xs).length pure from rfl,Sem.wp_choose];refine(by simp,?_);generalize (model prog w).w.draws Source.order (s.drawn.get Source.order)=v;have b:v%(x::xs).length<(x::xs).length:=aiV _ (by simp);have e:=aad b
  show wpAny (model prog w) A (match (x::xs)[v%(x::xs).length]? with|some y=>(do return y::(<-drawOrder n ((x::xs).eraseIdx (v%(x::xs).length)))) | none=>unsupported "internal:drawOrder") Q E { s with drawn:=s.drawn.bump Source.order }
  rw[e];refine wpAny_bind (Gw n _ _ (by rw[ahy b];simp at a ⊢;lia) λl d p=>wpAny_pure (h _ d ((p.cons _).trans (nM e))))
end
set_option maxRecDepth 100000
section
variable{o:Obj}{es:Array (Int×Value)}{ep:Nat}{t:SetTable}
theorem Ls(a:cD s.heap S o es ep t)(g:o.cls=.type "set")(h:es.size<scanBound){Q:Value->Shared->Prop}
  (k:¬((cR w && (!t.plain && decide (es.size > 1)))=true)->Q (.ref s.heap.objs.size) { s with heap:=s.heap.push (Ux (.int 0 0) 0 (.ref S) es.size ep) })
  (j:(cR w && (!t.plain && decide (es.size > 1)))=true -> ∀(l:List Nat) d,afv l (adU es.size)->Q (.ref (s.heap.objs.size+1)) { s with heap:=(s.heap.push { cls:=.type "tuple",data:=.seq (l.map λi:Nat=>rawInt i).toArray 0 }).push (Ux (.ref s.heap.objs.size) 0 (.ref S) es.size ep),drawn:=d }):
  wpAny (model prog w) A (pyIter (.ref S)) Q E s:=by
 have f:s.TypeIs (.ref S) "set":=(_,a.get,g)
 refine wpAny_pyIter_slot f PySem.F.slot_set_iter (wpAny_call_entry PySem.F.slot_set_iter f u5 ?_ (PySem.F.args_set_iter_1 _));unfold Builtin.«frozenset.__iter__»
 refine wpAny_bind (m:=Builtin.Frozenset.slot0 "__iter__" _) (wpAny_pure ?_)
 refine wpAny_bind (m:=Builtin.Frozenset.sizeOf S) (wpAny_bind (wpAny_setEntries_of a.get a.dat a.fit (wpAny_pure ?_)));refine wpAny_bind (m:=setDrawn S) ?_;unfold setDrawn;refine wpAny_bind (wpAny_setState_of a.get a.dat a.fit ?_);dsimp only;refine wpAny_bind (mQ (wpAny_pure ?_));rw[aiS];split
 ·rename_i b;refine wpAny_bind (Gw _ _ _ afT λl d c=>?_);refine wpAny_bind (wpAny_newTuple ?_ (by rw[aaa,c.length_eq,afT];exact fits_of_scanBound h));refine wpAny_bind (wpAny_setEpoch_of (Heap.get?_push_of_some _ a.get) a.dat a.fit ?_)
  refine wpAny_bind (wpAny_newObj_type (wpAny_pure (_,rfl,"set_iterator",_,(_,Heap.get?_push_size _ rfl,rfl),eZ.lookup,?_)))
  have e:(s.heap.push { cls:=.type "tuple",data:=.seq (l.map λi:Nat=>rawInt i).toArray 0 }).objs.size=s.heap.objs.size+1:=Heap.size_push ..
  have q:=j b l d c;rw[<-e]at q;exact q
 ·rename_i b;refine wpAny_bind (wpAny_pure ?_);refine wpAny_bind (wpAny_setEpoch_of a.get a.dat a.fit ?_)
  refine wpAny_bind (wpAny_newObj_type (wpAny_pure (_,rfl,"set_iterator",_,(_,Heap.get?_push_size _ rfl,rfl),eZ.lookup,?_)))
  exact k b
abbrev XF(l:List Nat):Obj:={ cls:=.type "tuple",data:=.seq (l.map λi:Nat=>rawInt i).toArray 0 }
theorem Lq{T:Addr}{i k:Nat}{l:List Nat}{e:Int×Value}{Q:Option Value->Shared->Prop}(b:s.heap.get? a=some (Ux (.ref T) i (.ref S) es.size ep))(n:s.heap.get? T=some (XF l))(c:cD s.heap S o es ep t)(f:l[i]?=some k)(g:es[k]?=some e)
  (h:∀h',h'.get? a=some (Ux (.ref T) (i+1:Nat) (.ref S) es.size ep)->Heap.SameBut a s.heap h'->Q (some e.2) { s with heap:=h' }):wpAny (model prog w) A (pyNext (.ref a)) Q E s:=by
 have d:s.TypeIs (.ref a) "set_iterator":=(_,b,rfl)
 unfold pyNext
 refine wpAny_bind (wpAny_attempt (wpAny_callSpecial?_slot (name:=Str.ofString "__next__") d eZ (wpAny_call_entry eZ d fV ?_ (gW _))))
 unfold Builtin.«set_iterator.__next__»
 refine wpAny_bind (m:=slotArgs "__next__" 0 _) (wpAny_pure ?_)
 refine wpAny_bind (wpAny_fieldsOf b rfl ?_);dsimp only;refine wpAny_bind (wpAny_setEntries_of c.get c.dat c.fit ?_);rw[if_neg (by simp)];refine wpAny_bind (wpAny_seqItems n rfl ?_);have j:(l.map λi:Nat=>rawInt i).toArray[(i:Int).toNat]?=some (rawInt k):=by
  rw[abS,ahe,aah,f];rfl
 dsimp only;rw[j];dsimp only [rawInt];rw[abS,abS];refine wpAny_bind (HN c g ?_);refine wpAny_bind (wpAny_setField b rfl (by simp) ?_);exact wpAny_pure (_,rfl,wpAny_pure (h _ (Heap.get?_update_self _ b rfl) (Heap.SameBut.update ..)))
theorem Hj{T:Addr}{i:Nat}{l:List Nat}{Q:Option Value->Shared->Prop}(g:A.handled=none)(c:s.heap.get? a=some (Ux (.ref T) i (.ref S) es.size ep))(n:s.heap.get? T=some (XF l))(d:cD s.heap S o es ep t)(f:l[i]?=none)
  (h:∀h',Heap.ExtBut a s.heap h'->Q none { s with heap:=h' }):wpAny (model prog w) A (pyNext (.ref a)) Q E s:=by
 have e:s.TypeIs (.ref a) "set_iterator":=(_,c,rfl)
 unfold pyNext
 refine wpAny_bind (wpAny_attempt (wpAny_callSpecial?_slot (name:=Str.ofString "__next__") e eZ (wpAny_call_entry eZ e fV ?_ (gW _))))
 unfold Builtin.«set_iterator.__next__»
 refine wpAny_bind (m:=slotArgs "__next__" 0 _) (wpAny_pure ?_)
 refine wpAny_bind (wpAny_fieldsOf c rfl ?_);dsimp only;refine wpAny_bind (wpAny_setEntries_of d.get d.dat d.fit ?_);rw[if_neg (by simp)];refine wpAny_bind (wpAny_seqItems n rfl ?_);have k:(l.map λi:Nat=>rawInt i).toArray[(i:Int).toNat]?=none:=by
  rw[abS,ahe,aah,f];rfl
 dsimp only;rw[k];dsimp only;refine wpAny_bind (wpAny_setField c rfl (by simp) ?_);have j:(s.heap.update a (Obj.mapFields (·.setIfInBounds 0 (rawInt 0)))).get? a=some (Ux (.int 0 0) i (.ref S) es.size ep):=Heap.get?_update_self _ c rfl;refine wpAny_bind (wpAny_setField (s:={ s with heap:=s.heap.update a (Obj.mapFields (·.setIfInBounds 0 (rawInt 0))) }) j rfl (by simp) ?_)
 refine wpAny_bind (m:=newExc (.type "StopIteration") []) ?_
 simp only[newExc,newTuple];refine wpAny_bind (wpAny_newObj_type ?_ (by size_fits));refine wpAny_bind (m:=firstArgMember _ _) (wpAny_of_eq (a:=Value.none) (by first|rfl | (simp only[firstArgMember];rfl)) ?_);refine wpAny_newObj_type ?_ (by size_fits);simp only[raiseNew];refine wpAny_bind (wpAny_handled ?_);rw[show A.in1.handled=none from g];refine wpAny_bind (wpAny_pure (wpAny_throw ?_))
 refine wpAny_bind (wpAny_isInstance (T := "StopIteration") (b:=true) (_,Heap.get?_push_size _ rfl,rfl) isSubtype_stop ?_)
 exact wpAny_pure (h _ ((((Heap.SameBut.update ..).trans (Heap.SameBut.update ..)).extBut.push _).push _))
end
set_option maxRecDepth 100000
section
variable{it:Addr}{o:Obj}{es:Array (Int×Value)}{ep:Nat}{t:SetTable}
theorem qi(a:s.TypeIs (.ref it) "set_iterator"){Q:Value->Shared->Prop}(h:Q (.ref it) s):wpAny (model prog w) A (pyIter (.ref it)) Q E s:=by
 refine wpAny_pyIter_slot a Gi (wpAny_call_entry Gi a wX ?_ (zM _));show wpAny _ _ (ret (.ref it)) _ _ s
 exact wpAny_pure (_,rfl,"set_iterator",_,a,eZ.lookup,h)
theorem cD.at{h':Heap}(a:cD base S o es ep t)(e:∀o,base.get? S=some o->h'.get? S=some o):cD h' S o es ep t:=(e _ a.get,a.dat,a.fit)
abbrev uy(ps:List (Int×Value))(i:Nat)(v:Value):Prop:=∃e,ps[i]?=some e/\v=e.2
theorem IV(p:A.handled=none)(ht:cR w=false)(k:S≠it):
  Walks prog w A it [it,S] [it] es.size (uy (pickOrder (w.params.setOrder S ep) es).toList) (λi h=>h.get? it=some (Ux (.int 0 0) i (.ref S) es.size ep)/\cD h S o es ep t) where
 sub:=λb c=>by simp at c;simp[c]
 frame:=λ_ _ _ a m=>(m it (by simp) _ a.1,a.2.at λo e=>m S (by simp) o e)
 item:=λi s Q E n a d=>by
  have g:(pickOrder (w.params.setOrder S ep) es).size=es.size:=by
   have:=(qW (w.params.setOrder S ep) es).length_eq;simpa using this
  obtain⟨e,f⟩:∃e,(pickOrder (w.params.setOrder S ep) es)[i]?=some e:=((pickOrder (w.params.setOrder S ep) es)[i]'(by omega),by simp[g,n]);refine GR a.1 a.2 (x:=e.2) (nx:=0) (λv r u h=>BR a.2 ht (by rw[f];exact h)) λj q l=>?_;exact d e.2 j s.toks (e,by rw[abT];exact f,rfl) (q,a.2.at λo e=>l.extBut S o k e) λb o c e=>l.extBut b o (λh=>c (by simp[h])) e
 done:=λs Q E a d=>by
  have g:(pickOrder (w.params.setOrder S ep) es).size=es.size:=by
   have:=(qW (w.params.setOrder S ep) es).length_eq;simpa using this
  refine next_end p a.1 a.2 (λv r u h=>BR a.2 ht (by rw[show (pickOrder (w.params.setOrder S ep) es)[es.size]?=none by simp[g]];exact h)) λj f=>?_;exact d j s.toks λb o c e=>f b o (λh=>c (by simp[h])) e
 self:=λ_ _ _ _ a d=>qi (_,a.1,rfl) d
def slotAt(t:SetTable):Nat->Nat
 | 0=>0
 | i+1=>t.place.getD i 0+1
theorem vf(h:t.place.toList.Pairwise (· < ·)){i:Nat}(d:i<=t.place.size):SetTable.below t.place (slotAt t i)=i:=by
 obtain⟨k,g,f⟩:=Ay h (slotAt t i);generalize SetTable.below t.place (slotAt t i)=b at k g f;rcases agw b i with c|c|c
 ·exfalso
  match i,d,c,g,f with
  | i+1,d,c,g,f =>
   have a:=f b (by lia) (aac _);have e:slotAt t (i+1)=t.place[i]'(by omega)+1:=by simp[slotAt,ain,show i<t.place.size by omega]
   rw[e]at a;rcases aas b i with j|j
   ·have:=o6 h j (show i<t.place.size by lia);lia
   ·have:b=i:=by lia
    subst this;lia
 ·exact c
 ·exfalso;have a:=g i (by lia) c
  match i,d,c,a with
  | 0,d,c,a=>exact absurd a (agl _)
  | i+1,d,c,a =>
   have e:slotAt t (i+1)=t.place[i]'(by omega)+1:=by simp[slotAt,ain,show i<t.place.size by omega]
   rw[e]at a;have:=o6 h (show i<i+1 by lia) (show i+1<t.place.size by lia);lia
theorem DN(v:A.handled=none)(ht:cR w=true)(j:fG true t)(f:t.fits es.size=true)(n:¬((!t.plain && decide (es.size > 1))=true))(l:S≠it):
  Walks prog w A it [it,S] [it] es.size (uy es.toList) (λi h=>h.get? it=some (Ux (.int (slotAt t i) 0) i (.ref S) es.size ep)/\cD h S o es ep t) where
 sub:=λb c=>by simp at c;simp[c]
 frame:=λ_ _ _ a q=>(q it (by simp) _ a.1,a.2.at λo e=>q S (by simp) o e)
 item:=λi s Q E r a d=>by
  have p:t.place.size=es.size:=by
   simp[SetTable.fits]at f;exact f.1
  have g:es[i]?=some es[i]:=by simp[r]
  have u:t.place[i]?=some (t.place[i]'(by omega)):=by simp[p,r]
  have e:slotAt t (i+1)=t.place[i]'(by omega)+1:=by simp[slotAt,ain,show i<t.place.size by omega]
  refine GR a.1 a.2 (x:=es[i].2) (nx:=slotAt t (i+1)) (λC z B h=>yt a.2 ht j.1 n (by rw[vf j.2 (by lia),g,u];rw[e]at h;exact h)) λk y m=>?_;exact d es[i].2 k s.toks (es[i],by rw[abT];exact g,rfl) (y,a.2.at λo e=>m.extBut S o l e) λb o c e=>m.extBut b o (λh=>c (by simp[h])) e
 done:=λs Q E a d=>by
  have p:t.place.size=es.size:=by
   simp[SetTable.fits]at f;exact f.1
  refine next_end v a.1 a.2 (λC z B h=>yt a.2 ht j.1 n (by rw[vf j.2 (by lia),show es[es.size]?=none by simp];exact h)) λk g=>?_;exact d k s.toks λb o c e=>g b o (λh=>c (by simp[h])) e
 self:=λ_ _ _ _ a d=>qi (_,a.1,rfl) d
theorem DK{T:Addr}{l:List Nat}(I:A.handled=none)(n:afv l (adU es.size))(u:S≠it)(z:T≠it):
  Walks prog w A it [it,S,T] [it] es.size (uy (l.filterMap λk=>es[k]?)) (λi h=>h.get? it=some (Ux (.ref T) i (.ref S) es.size ep)/\cD h S o es ep t/\h.get? T=some (XF l)) where
 sub:=λb j=>by simp at j;simp[j]
 frame:=λ_ _ _ c d=>(d it (by simp) _ c.1,c.2.1.at λo e=>d S (by simp) o e,d T (by simp) _ c.2.2)
 item:=λi s Q E H c m=>by
  have f:l.length=es.size:=by rw[n.length_eq,afT]
  have d:l[i]?=some (l[i]'(by omega)):=by simp[f,H]
  have v:l[i]'(by omega)<es.size:=agi.mp (n.mem_iff.mp (abX _));have p:es[l[i]'(by omega)]?=some (es[l[i]'(by omega)]):=by simp[v]
  have F:(l.filterMap λk=>es[k]?)[i]?=some (es[l[i]'(by omega)]):=by
   have G:∀g:List Nat,(∀k∈g,k<es.size)->(g.filterMap λk=>es[k]?).map some=g.map λk=>es[k]?:=by
    intro g
    induction g with
    | nil=>intro _;rfl
    | cons a g D =>
     intro h;have C:es[a]?=some (es[a]'(h a aa5)):=by simp[h a aa5]
     rw[agB,C,aaA,aaA,D λk d=>h k (aaL _ d),C]
   have:=congrArg (λx=>x[i]?) (G l λk d=>agi.mp (n.mem_iff.mp d));simp only[aah,d,ag4,p]at this;cases B:(l.filterMap λk=>es[k]?)[i]? with
   | none=>rw[B]at this;cases this
   | some y=>rw[B]at this;injection this
  refine Lq c.1 c.2.2 c.2.1 d p λr J q=>?_;exact m _ r s.toks (_,F,rfl) (J,c.2.1.at λo e=>q.extBut S o u e,q.extBut T _ z c.2.2) λb o j e=>q.extBut b o (λh=>j (by simp[h])) e
 done:=λs Q E c m=>by
  have f:l.length=es.size:=by rw[n.length_eq,afT]
  refine Hj I c.1 c.2.2 c.2.1 (by simp[f]) λr p=>?_;exact m r s.toks λb o j e=>p b o (λh=>j (by simp[h])) e
 self:=λ_ _ _ _ c m=>qi (_,c.1,rfl) m
theorem wQ(es:Array (Int×Value)):((adU es.size).filterMap λk=>es[k]?)=es.toList:=by
 apply agR;intro i;have c:∀n,n<=es.size->((adU n).filterMap λk=>es[k]?)=es.toList.take n:=by
  intro n
  induction n with
  | zero=>intro _;simp
  | succ n b =>
   intro h;have a:es[n]?=some (es[n]'(by omega)):=by simp[show n<es.size by omega]
   rw[af1,List.filterMap_append,b (by lia),agB,a,List.filterMap_nil,abW,abT,a];rfl
 rw[c es.size (aac _)];rw[aai (by simp)]
theorem Iv(i:A.handled=none)(g:cD s.heap S o es ep t)(n:o.cls=.type "set")(a:es.size<scanBound)(m:fG (cR w) t){Q:Value->Shared->Prop}
  (h:∀(I:Addr) (h':Heap) d fp ps St,afv ps es.toList->Walks prog w A I fp [I] es.size (uy ps) St->St 0 h'->(∀b o,s.heap.get? b=some o->h'.get? b=some o)->s.heap.objs.size<=I->(∀b∈fp,b=S\/s.heap.objs.size<=b)->Q (.ref I) { s with heap:=h',drawn:=d }):
  wpAny (model prog w) A (pyIter (.ref S)) Q E s:=by
 have f:S<s.heap.objs.size:=Heap.lt_size g.get;refine Ls g n a (λc=>?_) λc l d j=>?_
 ·cases ht:cR w with
  | false =>
   refine h s.heap.objs.size _ s.drawn _ _ _ (qW _ _) (IV (o:=o) (t:=t) i ht (aaq f)) (Heap.get?_push_size _ rfl,g.at λo e=>Heap.get?_push_of_some _ e) (λb o e=>Heap.get?_push_of_some _ e) (aac _) ?_;intro b a;simp at a;rcases a with rfl|rfl
   ·exact .inr (aac _)
   ·exact .inl rfl
  | true =>
   rw[ht]at m c;rw[Bool.true_and]at c;refine h s.heap.objs.size _ s.drawn _ _ _ .rfl (DN (o:=o) (t:=t) i ht m g.fit c (aaq f)) (Heap.get?_push_size _ rfl,g.at λo e=>Heap.get?_push_of_some _ e) (λb o e=>Heap.get?_push_of_some _ e) (aac _) ?_;intro b a;simp at a;rcases a with rfl|rfl
   ·exact .inr (aac _)
   ·exact .inl rfl
 ·have p:(s.heap.push (XF l)).objs.size=s.heap.objs.size+1:=Heap.size_push ..;refine h (s.heap.objs.size+1) _ d _ _ _ ?_ (DK (o:=o) (t:=t) (T:=s.heap.objs.size) i j (aaq (agy f)) (aaq (agf _))) (?_,g.at λo e=>Heap.get?_push_of_some _ (Heap.get?_push_of_some _ e),Heap.get?_push_of_some _ (Heap.get?_push_size _ rfl)) (λb o e=>Heap.get?_push_of_some _ (Heap.get?_push_of_some _ e)) (agj _) ?_
  ·have:=j.filterMap λk=>es[k]?;rw[wQ]at this;exact this
  ·rw[<-p];exact Heap.get?_push_size _ rfl
  ·intro b a;simp at a;rcases a with rfl|rfl|rfl
   ·exact .inr (agj _)
   ·exact .inl rfl
   ·exact .inr (aac _)
end
set_option maxRecDepth 100000
section
variable{o:Obj}{es:Array (Int×Value)}{ep:Nat}{t:SetTable}
theorem JP{Q:Bool->Shared->Prop}(a:s.TypeIs (.ref S) "set")(h:Q false s):wpAny (model prog w) A (Builtin.List.listLengthHint (.ref S)) Q E s:=by
 unfold Builtin.List.listLengthHint;refine wpAny_bind (wpAny_specialOf a PySem.F.slot_set_len.lookup ?_)
 generalize d:("set.__len__" : String)=i0
 wp_delta
 rw[show splitId i0=some (pq ("set") ("__len__")) by subst d;decide +kernel]
 subst d
 refine wpAny_bind (wpAny_isInstance (T := "set") (b:=true) a (by rw[isSubtype_type];kernel_rfl) ?_)
 refine wpAny_ite_split (λc=>absurd c (by decide)) λ_=>wpAny_ite_split (λ_=>?_) λc=>absurd (by decide +kernel) c;exact wpAny_bind (wpAny_typeOf a (wpAny_pure h))
theorem Er{s d:Shared}(m:Moved j (λa b=>b=a) s d):d={ s with heap:=d.heap,toks:=d.toks }:=by
 obtain⟨i,l,p,e,g⟩:=d;obtain⟨k,n,q,f,h⟩:=s;have a:=m.gens;have b:=m.drawn;have c:=m.os;dsimp only at a b c;subst a;subst b;subst c;rfl
theorem sI{Q:List Value->Shared->Prop}(V:A.handled=none)(D:cD s.heap S o es ep t)(B:o.cls=.type "set")(i:es.size<scanBound)(X:fG (cR w) t)
  (h:∀(c:Array Value) (h':Heap) d tk ps,afv ps es.toList->ItemsOf (uy ps) c es.size->s.heap.objs.size<h'.objs.size->(∀b o,s.heap.get? b=some o->h'.get? b=some o)->Q c.toList { s with heap:=h',drawn:=d,toks:=tk }):
  wpAny (model prog w) A (collect (.ref S)) Q E s:=by
 have J:=Heap.lt_size D.get
 have a0:s.TypeIs (.ref S) "set":=(_,D.get,B)
 have H:es.size<=sizeLine:=fits_of_scanBound i;unfold collect;refine wpAny_bind (wpAny_runValue (codeAny_builtin PySem.F.entry_proto_collect ?_));rw[Around.under_plainId PySem.F.plain_proto_collect _];refine wpAny_bind (m:=newList []) (wpAny_newObj_type (wpAny_pure (plainId_quiet PySem.F.plain_list_iadd _,codeAny_builtin PySem.F.entry_list_iadd ?_)));rw[Around.under_plainId PySem.F.plain_list_iadd _]
 show wpAny _ A.in1 (Builtin.List.listExtendWith (.ref s.heap.objs.size) (.ref S) (.ref s.heap.objs.size)) _ _ { s with heap:=s.heap.push (seqObj "list" #[] 0) }
 generalize k:s.heap.objs.size=L at *
 have g:∀b o,s.heap.get? b=some o->(s.heap.push (seqObj "list" #[] 0)).get? b=some o:=λb o e=>Heap.get?_push_of_some _ e
 have M:(s.heap.push (seqObj "list" #[] 0)).get? L=some (seqObj "list" #[] 0):=by
  rw[<-k];exact Heap.get?_push_size _ rfl
 have a:(s.heap.push (seqObj "list" #[] 0)).objs.size=L+1:=by rw[<-k];exact Heap.size_push ..
 generalize s.heap.push (seqObj "list" #[] 0)=G at *
 have j:cD G S o es ep t:=D.at λo e=>g _ _ e;have p:L≠S:=λe=>absurd J (by rw[e];exact adK _)
 have x:Shared.TypeIs { s with heap:=G } (.ref S) "set":=(_,j.get,B)
 unfold Builtin.List.listExtendWith;refine wpAny_bind (wpAny_typeOf x ?_);rw[if_neg (by simp[Builtin.List.listSameRef,p])];refine wpAny_bind (Iv (s:={ s with heap:=G }) (by simp[V]) j B i X λI l d Y ps St U W R C P K=>?_)
 have r:l.get? L=some (seqObj "list" #[] 0):=C _ _ M
 have v:Shared.TypeIs { s with heap:=l,drawn:=d } (.ref S) "set":=(_,C _ _ j.get,B)
 refine wpAny_bind (wpAny_holding (JP v ?_));rw[if_pos (by decide)];refine wpAny_bind (wpAny_rule (wpAny_bind ?_));have a1:L≠I:=λe=>by
  have:L+1<=I:=a ▸ P;lia
 have n:L∉Y:=λz=>by
  rcases K _ z with z|z
  ·exact p z
  ·rw[a]at z;lia
 show wpAny _ _ (updateSeq L (·.push .none) >>= λ_=>updateSeq L (·.pop)) _ _ _;refine wpAny_bind (wpAny_updateSeq r rfl ?_);have q:=Heap.get?_update_self (Obj.mapSeq (·.push Value.none)) r rfl;refine wpAny_updateSeq (hz:=by seq_fits) q rfl ?_;have Z:=Heap.get?_update_self (Obj.mapSeq (·.pop)) q rfl;have f:∀b o,b≠L->l.get? b=some o->((l.update L (Obj.mapSeq (·.push Value.none))).update L (Obj.mapSeq (·.pop))).get? b=some o:=λb o i e=>(Heap.get?_update_other _ _ (ae2 i)).trans ((Heap.get?_update_other _ _ (ae2 i)).trans e);generalize ((l.update L (Obj.mapSeq (·.push Value.none))).update L (Obj.mapSeq (·.pop)))=h2 at *;refine wpAny_pure (plainId_quiet PySem.F.plain_extend_loop _,codeAny_extend_loopS W.toS H L n _ es.size 0 _ #[] _ rfl (aaK _) (W.frame 0 _ _ R λb i o e=>f b o (λz=>n (z ▸ i)) e) Z (ItemsOf.nil _) λT c c' O u y=>?_);rw[Er O];refine wpAny_bind (wpAny_load u (wpAny_pure ?_));refine h c T.heap d _ ps U y (Heap.lt_size u) λb o e=>O.heap b o (λz=>?_) (f b o ?_ (C _ _ (g _ _ e)))
 ·have:=Heap.lt_size e;rcases aaH.mp z with z|z
  ·rw[z,k]at this;exact adK _ this
  ·rw[aaj.mp z,k]at this;have N:L+1<=I:=by rw[<-a];exact P
   exact absurd (aao (agf L) N) (Nat.lt_asymm this)
 ·intro z;have:=Heap.lt_size e;rw[z,k]at this;exact adK _ this
end
set_option maxRecDepth 100000
section
theorem Ht{c:Array (Int×Value)}{n:List (Int×(Int×Value))}(u:lM (intKind prog w) c.toList d n){ps:List (Int×Value)}(f:afv ps c.toList)(g:ItemsOf (uy ps) I c.size):∃j,IntsAre I.toList j/\afv j d:=by
 obtain⟨h,a⟩:=u.perm f;have l:ps.length=c.size:=by rw[f.length_eq,aae]
 have k:I.toList=ps.map (·.2):=by
  apply agR;intro i;rw[aah];cases m:I.toList[i]? with
  | none =>
   have:I.toList.length<=i:=ags.mp m;rw[aae,g.1,<-l]at this;rw[agq this];rfl
  | some v =>
   obtain⟨e,y,x⟩:=g.2 i v (by rw[<-abT];exact m);rw[y,x];rfl
 refine(h.map (·.1),?_,a.fst);rw[k,<-a.snd];have b:=a.is
 clear a k l g f
 induction h with
 | nil=>exact .nil
 | cons p h o =>
  obtain⟨t,ht⟩:=Value.isInt_shape (b p aa5).1;rw[aaA,aaA,aaA,ht];exact .cons _ t (o λq r=>b q (aaL _ r))
end
end Tw
namespace L2
open PySem.Spec PyProof.Rows Tw
section
theorem Inv.drawnTo(I:Inv X π σ H s)(d:Drawn):Inv X π σ H { s with drawn:=d }:=
 I.step (g':=s.gens) (t':=s.toks) (d':=d) (ch:=[]) (λ_ z=>nomatch z) (λ_ _ _ _ _ e _=>e) (λb o _ _ _ e _=>(o.slots,e)) (λ_ _ _ _ n=>n) (λb o _ e=>(o,e)) (λ_ _ e=>e) (λ_ _ _ e=>e) (λb a e=>(#[],by rw[e];simp)) (λ_ h=>h) I.hok I.bare
def Pu(P:Program)(w:World)(a:Addr)(b:List Int):HO:=.ext λh=>jo (cR w) (intKind P w) h a b
theorem Ma{P:Program}{w:World}{a:Addr}(e:jo (cR w) (intKind P w) h' a d):bB P w H h' a (Pu P w a d):=by
 refine(e,?_,λ_ _ p k=>p.at k);obtain⟨o,_,_,_,_,b,_⟩:=e;exact(o,b)
theorem Hz(F:X.calm=true):gn X (.type "set") (λxs H Q=>∃(p:Addr) (a:List Int),xs=[.ref p]/\My X.K H p (a.map V.int)/\(met (λi=>a.getD i 0) a.length).length+1<scanBound /\
  ∀l k o,H l=none->k=met (λi=>a.getD i 0) a.length->o=Pu X.prog X.w l k->Q (.ref l) (upd H l o)):=by
 intro π s σ H xs M Q I r h;obtain⟨p,a,rfl,D,G,q⟩:=h;obtain⟨u,rfl,z⟩:=vals1 r;cases z;obtain⟨c,A,B,N⟩:=I.list D;have m:=intsAre_of A;have g:=m.length;have d:c.toArray.size=a.length:=by simpa using g
 refine xX (knd:=intKind X.prog X.w) (f:=λi=>a.getD i 0) (I.ok.hd F) B.isList (λi v e=>?_) (by rw[d];exact G) λO y x E=>?_
 ·have L:c[i]?=some v:=by simpa using e
  have:∀{j:List Value}{a:List Int},IntsAre j a -> ∀(i:Nat) v,j[i]?=some v->Value.isInt (a.getD i 0) v=true/\v.scannable=true:=by
   intro j a J
   induction J with
   | nil=>intro i v e;simp at e
   | cons n t _ C =>
    intro i v e;cases i with
    | zero =>
     simp at e;subst e;exact(by simp[Value.isInt],rfl)
    | succ i=>exact C i v (by simpa using e)
  exact this m i v L
 ·rw[d]at x;exact(.ref s.heap.objs.size,_,I.laid (t':=y) (λb o e=>E b o (Heap.lt_size e) e) (aac _) (Ma x),rfl,q _ _ _ (I.hok.fresh (aac _)) rfl rfl)
end
end L2
namespace Tw
open PyProof.Rows
set_option autoImplicit false
structure TB(a₀:Array Keyed)(pd:Array (Nat×Nat×Nat))(st:SortSt):Prop where
 perm:(arrOf st).Perm a₀
 kind:kindOf st=oneType'
 failed:failedOf st=none
 pend:pendingOf st=pd
theorem TB.size{a₀:Array Keyed}{a:Array (Nat×Nat×Nat)}{st:SortSt}(h:TB a₀ a st):(arrOf st).size=a₀.size:=h.perm.size_eq
theorem TB.set{a₀:Array Keyed}{a:Array (Nat×Nat×Nat)}{st:SortSt}(h:TB a₀ a st){xs:Array Keyed}(b:xs.Perm (arrOf st)):TB a₀ a (setArr st xs):=(b.trans h.perm,h.kind,h.failed,h.pend)
def Ui(κ:KeyKind)(xs:Array Keyed)(lo n:Nat):Prop:=∀i j,i<=j->j<n->κ.kle (KK κ xs (lo+i)) (KK κ xs (lo+j))
def Uy(κ:KeyKind)(xs:Array Keyed)(lo n:Nat):Prop:=∀i j,i<=j->j<n->κ.kle (KK κ xs (lo+j)) (KK κ xs (lo+i))
def T8(lo:Nat)(xs ys:Array Keyed):Prop:=∀k:Nat,k<lo->ys[k]?=xs[k]?
theorem T8.refl(lo:Nat)(xs:Array Keyed):T8 lo xs xs:=λ_ _=>rfl
theorem T8.trans{lo:Nat}{xs ys zs:Array Keyed}(h:T8 lo xs ys)(g:T8 lo ys zs):T8 lo xs zs:=λk a=>(g k a).trans (h k a)
theorem iQ{lo i j:Nat}{xs:Array Keyed}(a:j<=xs.size)(c:lo<=i):T8 lo xs (mirror xs i j ((j - i) / 2)):=λk b=>by
 rw[getElem?_mirror_all a,if_neg (by lia)]
theorem Ui.one(κ:KeyKind)(xs:Array Keyed)(lo:Nat):Ui κ xs lo 1:=λi j a b=>by
 have:i=j:=by lia
 subst this;exact KeyOrd.kle_refl _
theorem Ui.more{κ:KeyKind}{xs:Array Keyed}{lo x:Nat}(h:Ui κ xs lo x)(g:1<=x)(e:κ.blt (KK κ xs (lo+x)) (KK κ xs (lo+x - 1))=false):Ui κ xs lo (x+1):=λi j c f=>by
 by_cases a:j<x
 ·exact h i j c a
 have b:j=x:=by lia
 subst b;by_cases d:i=j
 ·subst d;exact KeyOrd.kle_refl _
 refine KeyOrd.kle_trans (h i (j - 1) (by lia) (by lia)) ?_;rw[show lo+(j - 1)=lo+j - 1 by lia];exact e
theorem Uy.more{κ:KeyKind}{xs:Array Keyed}{lo x:Nat}(h:Uy κ xs lo x)(g:1<=x)(e:κ.kle (KK κ xs (lo+x)) (KK κ xs (lo+x - 1))):Uy κ xs lo (x+1):=λi j c f=>by
 by_cases a:j<x
 ·exact h i j c a
 have b:j=x:=by lia
 subst b;by_cases d:i=j
 ·subst d;exact KeyOrd.kle_refl _
 have q:=h i (j - 1) (by lia) (by lia);rw[show lo+(j - 1)=lo+j - 1 by lia]at q;exact KeyOrd.kle_trans e q
theorem Uy.turn{κ:KeyKind}{xs:Array Keyed}{lo n:Nat}(h:Uy κ xs lo n)(a:lo+n<=xs.size):Ui κ (mirror xs lo (lo+n) ((lo+n - lo) / 2)) lo n:=λi j b c=>by
 rw[KK_mirror a,KK_mirror a,if_pos (by lia),if_pos (by lia)];have q:=h (n - 1 - j) (n - 1 - i) (by lia) (by lia);rw[show lo+(lo+n) - 1 - (lo+i)=lo+(n - 1 - i) by lia,show lo+(lo+n) - 1 - (lo+j)=lo+(n - 1 - j) by lia];exact q
theorem Uy.keys{κ:KeyKind}{xs ys:Array Keyed}{lo n:Nat}(h:Uy κ xs lo n)(e:∀k,KK κ ys k=KK κ xs k):Uy κ ys lo n:=λi j a b=>by
 rw[e,e];exact h i j a b
section
variable{a₀:Array Keyed}{κ:KeyKind}{pd:Array (Nat×Nat×Nat)}
theorem TB.atK{st:SortSt}(h:TB a₀ pd st)(g:KeysOf κ a₀){i:Nat}(f:i<a₀.size):∃x p a,(arrOf st)[i]?=some (pq x p)/\κ.keyOf x=some a/\KK κ (arrOf st) i=a:=by
 have b:i<(arrOf st).size:=by rw[h.size];exact f
 have d:(arrOf st)[i]∈a₀.toList:=(agm.mp h.perm).mem_iff.mp (aco _);obtain⟨a,c⟩:=g _ d;have e:(arrOf st)[i]?=some (pq ((arrOf st)[i].1) ((arrOf st)[i].2)):=getElem?_pos _ i b;exact(_,_,a,e,c,by unfold KK;rw[e];simp[c])
theorem pW{st:SortSt}{i j:Nat}{Q:Option Bool->SortSt->Prop}(n:κ.OneLt)(c:TB a₀ pd st)(d:KeysOf κ a₀)(k:i<a₀.size)(g:j<a₀.size)
  (h:Q (some (κ.blt (KK κ (arrOf st) i) (KK κ (arrOf st) j))) st):wpS (model prog w) A E s (ltAt' i j) Q st:=by
 obtain⟨x,p,a,r,m,f⟩:=c.atK d k;obtain⟨y,q,b,o,l,e⟩:=c.atK d g;rw[f,e]at h;exact wpS_ltAtK n c.kind r o m l h
theorem Bt{st:SortSt}{lo :Nat}{Q:Option Nat->SortSt->Prop}(hO:κ.OneLt)(h0:KeysOf κ a₀)(P:TB a₀ pd st)(hn:lo+n<=a₀.size)(h1:1<=n)
  (h:∀m e,TB a₀ pd e->T8 lo (arrOf st) (arrOf e)->1<=m->m<=n->Ui κ (arrOf e) lo m->Q (some m) e):wpS (model prog w) A E s (countRun' lo n) Q st:=by
 have a0:∀(a:Nat) (f:SortSt),TB a₀ pd f->1<=a->a<=n->Ui κ (arrOf f) lo a -> ∀(G:Option (Option Nat)×Nat->SortSt->Prop),
   (∀d,a<=d->d<=n->Ui κ (arrOf f) lo d->(d=n\/κ.klt (KK κ (arrOf f) (lo+d)) (KK κ (arrOf f) (lo+d - 1)))->G (pq none d) f) ->
   wpS (model prog w) A E s (forIn [a:n] ((pq none a):Option (Option Nat)×Nat) λ_ r=>do
    let x <-ltAt' (lo+r.2) (lo+r.2 - 1)
    match x with
    | some b=>if b=true then pure (ForInStep.done (pq none r.2))else pure (ForInStep.yield (pq none (r.2+1)))
    | _=>pure (ForInStep.done (pq (some none) r.2))) G f:=by
  intro a f U b6 b1 T G O;refine wpS_forRange (I:=λx c e=>e=f/\c=(pq none x)/\Ui κ (arrOf f) lo x) ?_ ?_ (rfl,rfl,T)
  ·rintro x c e S a3 ⟨rfl,rfl,C⟩;refine wpS_bind (pW hO U h0 (by lia) (by lia) ?_);cases V:κ.blt (KK κ (arrOf e) (lo+x)) (KK κ (arrOf e) (lo+x - 1))
   ·exact wpS_pure (rfl,rfl,C.more (by lia) V)
   ·exact wpS_pure (O x S (by lia) C (.inr V))
  ·rintro c e ⟨rfl,rfl,C⟩;rw[show max a n=n by lia]at C ⊢;exact O n b1 (aac _) C (.inl rfl)
 have B:∀{i j:Nat}{f:SortSt}{G:Unit->SortSt->Prop},G () (setArr f (mirror (arrOf f) i j ((j - i) / 2)))->wpS (model prog w) A E s (reverseSlice' i j) G f:=λO=>by
  rw[reverseSlice'_eq];exact wpS_modify O
 have L:∀(d:Nat) (f:SortSt) (k:Option (Option Nat)×Nat->StateT SortSt Sem (Option Nat)),(∀m,k (pq none m)=pure (some m))->TB a₀ pd f->T8 lo (arrOf st) (arrOf f)->1<=d->d<=n->Uy κ (arrOf f) lo d ->
   wpS (model prog w) A E s (reverseSlice' lo (lo+d) >>= λ_=>(forIn [d:n] ((pq none d):Option (Option Nat)×Nat) λ_ r=>do
     let x <-ltAt' (lo+r.2) (lo+r.2 - 1)
     match x with
     | some b=>if b=true then pure (ForInStep.done (pq none r.2))else pure (ForInStep.yield (pq none (r.2+1)))
     | _=>pure (ForInStep.done (pq (some none) r.2))) >>= k) Q f:=by
  intro d f k hk U hL J H hd;have p:lo+d<=(arrOf f).size:=by rw[U.size];lia
  refine wpS_bind (B ?_);have K:TB a₀ pd (setArr f (mirror (arrOf f) lo (lo+d) ((lo+d - lo) / 2))):=U.set (mirror_perm _ _ _ _);refine wpS_bind (a0 d _ K J H (hd.turn p) _ λm X v a4 _=>?_);rw[hk];exact wpS_pure (h m _ K (hL.trans (iQ p (aac _))) (by lia) v a4)
 have N:∀(M:Nat) (f:SortSt),TB a₀ pd f->T8 lo (arrOf st) (arrOf f)->1<=M->M<=n->Uy κ (arrOf f) lo M -> ∀(G:Option (Option Nat)×Nat×Nat->SortSt->Prop),
   (∀m q e,TB a₀ pd e->T8 lo (arrOf st) (arrOf e)->M<=m->m<=n->Uy κ (arrOf e) lo m->q+1<=m->(∀i,lo+m - (q+1)<=i->i<lo+m->KK κ (arrOf e) i=KK κ (arrOf e) (lo+m - 1))->G (pq none (pq m q)) e) ->
   wpS (model prog w) A E s (forIn [M:n] ((pq none (pq M 0)):Option (Option Nat)×Nat×Nat) λ_ r=>ltAt' (lo+r.2.1) (lo+r.2.1 - 1) >>= λx=>match x with
    | some b=>if b=true then (if r.2.2 > 0 then (reverseSlice' (lo+r.2.1 - (r.2.2+1)) (lo+r.2.1) >>= λ_=>pure (ForInStep.yield (pq none (pq (r.2.1+1) 0))))else pure (ForInStep.yield (pq none (pq (r.2.1+1) 0))))
     else (ltAt' (lo+r.2.1 - 1) (lo+r.2.1) >>= λy=>match y with
      | some b=>if b=true then pure (ForInStep.done (pq none (pq r.2.1 r.2.2)))else pure (ForInStep.yield (pq none (pq (r.2.1+1) (r.2.2+1))))
      | _=>pure (ForInStep.done (pq (some none) (pq r.2.1 r.2.2))))
    | _=>pure (ForInStep.done (pq (some none) (pq r.2.1 r.2.2)))) G f:=by
  intro M f U hL b5 D hd G O;refine wpS_forRange (I:=λx c e=>∃q,c=(pq none (pq x q))/\TB a₀ pd e/\T8 lo (arrOf st) (arrOf e)/\Uy κ (arrOf e) lo x/\q+1<=x /\ ∀i,lo+x - (q+1)<=i->i<lo+x->KK κ (arrOf e) i=KK κ (arrOf e) (lo+x - 1)) ?_ ?_ (0,rfl,U,hL,hd,by lia,λi a b=>by congr 1;lia)
  ·rintro x c e S a3 ⟨q,rfl,g,o,l,XH,F⟩;have p:lo+x<=(arrOf e).size:=by rw[g.size];lia
   dsimp only;refine wpS_bind (pW hO g h0 (by lia) (by lia) ?_);cases V:κ.blt (KK κ (arrOf e) (lo+x)) (KK κ (arrOf e) (lo+x - 1))
   ·refine wpS_bind (pW hO g h0 (by lia) (by lia) ?_);cases hg:κ.blt (KK κ (arrOf e) (lo+x - 1)) (KK κ (arrOf e) (lo+x))
    ·have eq:KK κ (arrOf e) (lo+x)=KK κ (arrOf e) (lo+x - 1):=κ.total _ _ V hg;refine wpS_pure (q+1,rfl,g,o,l.more (by lia) (by rw[eq];exact KeyOrd.kle_refl _),by lia,λi a b=>?_);rw[show lo+(x+1) - 1=lo+x by lia,eq];by_cases hi:i=lo+x
     ·rw[hi,eq]
     ·exact F i (by lia) (by lia)
    ·exact wpS_pure (O x q e g o S (by lia) l XH F)
   ·have W:∀ys:Array Keyed,(∀k,KK κ ys k=KK κ (arrOf e) k)->Uy κ ys lo (x+1):=λys hk=>(l.more (by lia) (KeyOrd.kle_of_klt V)).keys hk;show wpS _ _ _ _ (if q > 0 then _ else _) _ _;by_cases t:q > 0
    ·rw[if_pos t];refine wpS_bind (B (wpS_pure (0,rfl,g.set (mirror_perm _ _ _ _),o.trans (iQ p (by lia)),W _ λk=>KK_mirror_equal p F k,by lia,λi a b=>by congr 1;lia)))
    ·rw[if_neg t];exact wpS_pure (0,rfl,g,o,W _ λk=>rfl,by lia,λi a b=>by congr 1;lia)
  ·rintro c e ⟨q,rfl,g,o,l,XH,F⟩;rw[show max M n=n by lia]at l XH F ⊢;exact O n q e g o D (aac _) l XH F
 rw[countRun'_eq];refine wpS_bind (a0 1 st P (aac _) h1 (Ui.one κ _ lo) _ λd J H T a7=>?_);dsimp only;by_cases D:d=n
 ·rw[if_pos (by simpa using D)];exact wpS_pure (h d st P (T8.refl _ _) J H T)
 rw[if_neg (by simpa using D)];have Y:=a7.resolve_left D;by_cases Z:d > 1
 ·rw[if_pos Z];refine wpS_bind (pW hO P h0 (by lia) (by lia) ?_);have p:lo+d<=(arrOf st).size:=by rw[P.size];lia
  cases a5:κ.blt (KK κ (arrOf st) lo) (KK κ (arrOf st) (lo+d - 1))
  ·have z:∀k,lo<=k->k<lo+d->KK κ (arrOf st) k=KK κ (arrOf st) (lo+d - 1):=λk b3 b2=>by
    have a1:=T 0 (k - lo) (by lia) (by lia);have a2:=T (k - lo) (d - 1) (by lia) (by lia);rw[show lo+(k - lo)=k by lia]at a1 a2;rw[show lo+(d - 1)=lo+d - 1 by lia]at a2;exact KeyOrd.kle_antisymm a2 (KeyOrd.kle_trans a5 a1)
   refine wpS_bind (B (wpS_bind (wpS_lift (wpAny_rule (rfl,?_)))));have K:TB a₀ pd (setArr st (mirror (arrOf st) lo (lo+d) ((lo+d - lo) / 2))):=P.set (mirror_perm _ _ _ _);refine wpS_bind (N (d+1) _ K (iQ p (aac _)) (by lia) (by lia) ?_ _ λm q e g o X v l a6 F=>?_)
   ·refine Uy.keys (xs:=arrOf st) (λi j a9 hj=>?_) λk=>KK_mirror_equal p z k;by_cases b4:j<d
    ·rw[z (lo+i) (by lia) (by lia),z (lo+j) (by lia) (by lia)];exact KeyOrd.kle_refl _
    have:j=d:=by lia
    subst this;by_cases R:i=j
    ·subst R;exact KeyOrd.kle_refl _
    rw[z (lo+i) (by lia) (by lia)];exact KeyOrd.kle_of_klt Y
   ·have u:lo+m<=(arrOf e).size:=by rw[g.size];lia
    dsimp only;by_cases t:q > 0
    ·rw[if_pos t];exact wpS_bind (B (L m _ _ (λ_=>rfl) (g.set (mirror_perm _ _ _ _)) (o.trans (iQ u (by lia))) (by lia) v (l.keys λk=>KK_mirror_equal u F k)))
    ·rw[if_neg t];exact L m _ _ (λ_=>rfl) g o (by lia) v l
  ·exact wpS_pure (h d st P (T8.refl _ _) J H T)
 ·rw[if_neg Z];have:d=1:=by lia
  subst this;refine wpS_bind (wpS_lift (wpAny_rule (rfl,?_)));refine wpS_bind (N (1+1) _ P (T8.refl _ _) (by lia) (by lia) ?_ _ λm q e g o X v l a6 F=>?_)
  ·intro i j a9 hj;by_cases R:i=j
   ·subst R;exact KeyOrd.kle_refl _
   have b0:i=0:=by lia
   have a8:j=1:=by lia
   subst b0;subst a8;exact KeyOrd.kle_of_klt Y
  ·have u:lo+m<=(arrOf e).size:=by rw[g.size];lia
   dsimp only;by_cases t:q > 0
   ·rw[if_pos t];exact wpS_bind (B (L m _ _ (λ_=>rfl) (g.set (mirror_perm _ _ _ _)) (o.trans (iQ u (by lia))) (by lia) v (l.keys λk=>KK_mirror_equal u F k)))
   ·rw[if_neg t];exact L m _ _ (λ_=>rfl) g o (by lia) v l
theorem wj{st:SortSt}{lo n :Nat}{Q:Bool->SortSt->Prop}(R:κ.OneLt)(U:KeysOf κ a₀)(S:TB a₀ pd st)(hn:lo+n<=a₀.size)(W:i<=n)(O:Ui κ (arrOf st) lo i)
  (h:∀b,TB a₀ pd b->T8 lo (arrOf st) (arrOf b)->Ui κ (arrOf b) lo n->Q true b):wpS (model prog w) A E s (binarySort' lo n i) Q st:=by
 rw[binarySort'_eq];refine wpS_bind (wpS_mono (wpS_forRange (I:=λk c b=>c=(pq none (()))/\TB a₀ pd b/\T8 lo (arrOf st) (arrOf b)/\Ui κ (arrOf b) lo (min k n)) (Q:=λc b=>c=(pq none (()))/\TB a₀ pd b/\T8 lo (arrOf st) (arrOf b)/\Ui κ (arrOf b) lo n) ?_ ?_ ?_) ?_)
 ·rintro k c b Z Y ⟨rfl,f,o,e⟩;rw[show min k n=k by lia]at e;have y:lo+k<a₀.size:=by lia
  refine wpS_bind (wpS_mono (wpS_forRange (I:=λx c d=>d=b /\ ∃l r,c=(pq none (pq l r))/\l<=r/\r<=k/\r - l<=k - x/\(∀a,a<l->κ.kle (KK κ (arrOf b) (lo+a)) (KK κ (arrOf b) (lo+k))) /\ ∀a,r<=a->a<k->κ.klt (KK κ (arrOf b) (lo+k)) (KK κ (arrOf b) (lo+a)))
   (Q:=λc d=>d=b /\ ∃l r,c=(pq none (pq l r))/\l<=k/\(∀a,a<l->κ.kle (KK κ (arrOf b) (lo+a)) (KK κ (arrOf b) (lo+k))) /\ ∀a,l<=a->a<k->κ.klt (KK κ (arrOf b) (lo+k)) (KK κ (arrOf b) (lo+a))) ?_ ?_ ?_) ?_)
  ·rintro x c d _ V ⟨rfl,l,r,rfl,z,p,P,g,m⟩;dsimp only;by_cases v:l >= r
   ·rw[if_pos v];have:l=r:=by lia
    subst this;exact wpS_pure (rfl,l,l,rfl,p,g,m)
   rw[if_neg v];refine wpS_bind (pW R f U y (by lia) ?_);cases K:κ.blt (KK κ (arrOf d) (lo+k)) (KK κ (arrOf d) (lo+(l+r) / 2))
   ·refine wpS_pure (rfl,_,_,rfl,by lia,p,by lia,λa M=>?_,m);exact KeyOrd.kle_trans (e a ((l+r) / 2) (by lia) (by lia)) K
   ·refine wpS_pure (rfl,_,_,rfl,by lia,by lia,by lia,g,λa C B=>?_);exact KeyOrd.klt_of_klt_of_kle K (e ((l+r) / 2) a C B)
  ·rintro c d ⟨rfl,l,r,rfl,z,p,P,g,m⟩;have:l=r:=by lia
   subst this;exact(rfl,l,l,rfl,p,g,m)
  ·exact(rfl,0,k,rfl,by lia,by lia,by lia,λa M=>by lia,λa T h2=>by lia)
  ·rintro c d ⟨rfl,l,r,rfl,X,g,m⟩;dsimp only;rw[moveDown'_eq];refine wpS_bind (wpS_modify (wpS_pure (rfl,f.set (bubble_perm _ _ _),o.trans λa M=>?_,λa j q L=>?_)))
   ·rw[getElem?_bubble (by rw[f.size];exact y) _ (by lia),if_neg (by lia),if_neg (by lia)]
   have N:∀t,t<=k->KK κ (bubble (arrOf d) (lo+k) (lo+k - (lo+l))) (lo+t)=if t=l then KK κ (arrOf d) (lo+k)else if l<t then KK κ (arrOf d) (lo+(t - 1))else KK κ (arrOf d) (lo+t):=λt ht=>by
    rw[KK_bubble (by rw[f.size];exact y) (by lia)];by_cases F:t=l
    ·rw[if_pos (by lia),if_pos F]
    rw[if_neg (by lia),if_neg F];by_cases D:l<t
    ·rw[if_pos (by lia),if_pos D,show lo+t - 1=lo+(t - 1) by lia]
    ·rw[if_neg (by lia),if_neg D]
   rw[show min (k+1) n=k+1 by lia]at L;show κ.kle (KK κ (bubble (arrOf d) (lo+k) (lo+k - (lo+l))) (lo+a)) (KK κ (bubble (arrOf d) (lo+k) (lo+k - (lo+l))) (lo+j));rw[N a (by lia),N j (by lia)];by_cases J:a=l
   ·rw[if_pos J];by_cases u:j=l
    ·rw[if_pos u];exact KeyOrd.kle_refl _
    rw[if_neg u,if_pos (by lia)];exact KeyOrd.kle_of_klt (m (j - 1) (by lia) (by lia))
   rw[if_neg J];by_cases H:l<a
   ·rw[if_pos H,if_neg (show ¬j=l by lia),if_pos (show l<j by lia)];exact e (a - 1) (j - 1) (by lia) (by lia)
   rw[if_neg H];by_cases u:j=l
   ·rw[if_pos u];exact g a (by lia)
   rw[if_neg u];by_cases G:l<j
   ·rw[if_pos G];exact e a (j - 1) (by lia) (by lia)
   rw[if_neg G];exact e a j q (by lia)
 ·rintro c b ⟨rfl,f,o,e⟩;rw[show min (max (max i 1) n) n=n by lia]at e;exact(rfl,f,o,e)
 ·refine(rfl,S,T8.refl _ _,λa j q L=>?_);by_cases T:i=0
  ·have:a=j:=by lia
   subst this;exact KeyOrd.kle_refl _
  ·exact O a j q (by lia)
 ·rintro c b ⟨rfl,f,o,e⟩;exact wpS_pure (h b f o e)
end
set_option autoImplicit false
def fW:Bool->Keyed->Array Keyed->Nat->Nat->Nat->StateT SortSt Sem (Option Nat):=sortPriv% PySem.Builtin.gallop
def QQ(b:Nat->StateT SortSt Sem (Option Bool))(n hint:Nat):StateT SortSt Sem (Option Nat):=do
 let mut la:=0
 let mut u:=1
 let mut l:=0
 let mut h:=0
 let some r <-b hint|return none
 if r then
  let a:=n - hint
  for _ in [0:n] do
   if u >= a then break
   let some mo <-b (hint+u) | return none
   if !mo then break
   la:=u
   u:=2*u+1
  l:=hint+la+1
  h:=hint+min u a
 else
  let a:=hint+1
  for _ in [0:n] do
   if u >= a then break
   let some fo <-b (hint - u) | return none
   if fo then break
   la:=u
   u:=2*u+1
  l:=hint+1 - min u a
  h:=hint - la
 for _ in [0:n] do
  if l >= h then break
  let m:=l+(h - l) / 2
  let some mo <-b m|return none
  if mo then l:=m+1 else h:=m
 return some h
def Gm(left:Bool)(a:Keyed)(b:Array Keyed)(base i:Nat):StateT SortSt Sem (Option Bool):=do
 let x <-elem' b (base+i)
 if left then lt' x a else return (<-lt' a x).map (!·)
theorem Fq(left:Bool)(a:Keyed)(b:Array Keyed)(base n hint:Nat):fW left a b base n hint=QQ (Gm left a b base) n hint:=rfl
section
variable{κ:KeyKind}
theorem Nb{N:Nat->StateT SortSt Sem (Option Bool)}{n hint:Nat}{st:SortSt}{Q:Option Nat->SortSt->Prop}(e:Nat->Bool)(T:hint<n)
  (J:∀i,i<n -> ∀(Q1:Option Bool->SortSt->Prop),Q1 (some (e i)) st->wpS (model prog w) A E s (N i) Q1 st)(g:∀i j,i<=j->j<n->e j=true->e i=true)
  (h:∀r,r<=n->(∀i,i<r->e i=true)->(∀i,r<=i->i<n->e i=false)->Q (some r) st):wpS (model prog w) A E s (QQ N n hint) Q st:=by
 have bin:∀(l u:Nat),l<=u->u<=n->(∀i,i<l->e i=true)->(∀i,u<=i->i<n->e i=false) -> ∀(Q1:Option (Option Nat)×Nat×Nat->SortSt->Prop),
   (∀r,r<=n->(∀i,i<r->e i=true)->(∀i,r<=i->i<n->e i=false)->Q1 (pq none (pq r r)) st) ->
   wpS (model prog w) A E s (forIn [0:n] ((pq none (pq l u)):Option (Option Nat)×Nat×Nat) λ_ r=>if r.2.1 >= r.2.2 then pure (ForInStep.done (pq none (pq r.2.1 r.2.2)))else N (r.2.1+(r.2.2 - r.2.1) / 2) >>= λx=>match x with
    | some b=>if b=true then pure (ForInStep.yield (pq none (pq (r.2.1+(r.2.2 - r.2.1) / 2+1) r.2.2)))else pure (ForInStep.yield (pq none (pq r.2.1 (r.2.1+(r.2.2 - r.2.1) / 2))))
    | _=>pure (ForInStep.done (pq (some none) (pq r.2.1 r.2.2)))) Q1 st:=by
  intro l u L m o p Q1 B;refine wpS_forRange (I:=λx c a=>a=st /\ ∃l u,c=(pq none (pq l u))/\l<=u/\u<=n/\(u - l)+x<=n/\(∀i,i<l->e i=true) /\ ∀i,u<=i->i<n->e i=false) ?_ ?_ (rfl,l,u,rfl,L,m,by lia,o,p)
  ·rintro x c a _ P ⟨rfl,l,u,rfl,L,m,R,o,p⟩;dsimp only;by_cases f:l >= u
   ·rw[if_pos f];have:l=u:=by lia
    subst this;exact wpS_pure (B l m o p)
   rw[if_neg f];refine wpS_bind (J _ (by lia) _ ?_);cases C:e (l+(u - l) / 2)
   ·refine wpS_pure (rfl,l,_,rfl,by lia,by lia,by lia,o,λi z v=>?_);cases D:e i
    ·rfl
    ·rw[g _ i z v D]at C;exact absurd C (by decide)
   ·exact wpS_pure (rfl,_,u,rfl,by lia,m,by lia,λi D=>g i _ (by lia) (by lia) C,p)
  ·rintro c a ⟨rfl,l,u,rfl,L,m,R,o,p⟩;have:l=u:=by lia
   subst this;exact B l m o p
 unfold QQ;refine wpS_bind (J hint T _ ?_);have H:∀i j,i<=j->j<n->e i=false->e j=false:=λi j O S D=>by
  cases C:e j
  ·rfl
  ·rw[g i j O S C]at D;exact absurd D (by decide)
 cases C:e hint
 ·dsimp only;rw[if_neg (by decide)];refine wpS_bind (wpS_mono (wpS_forRange (I:=λx c a=>a=st /\ ∃d u,c=(pq none (pq d u))/\d<u/\x+1<=u/\d<=hint/\e (hint - d)=false) (Q:=λc a=>a=st /\ ∃d u,c=(pq none (pq d u))/\d<u/\d<=hint/\e (hint - d)=false/\(u >= hint+1\/e (hint - u)=true)) ?_ ?_ (rfl,0,1,rfl,by lia,by lia,by lia,C)) ?_)
  ·rintro x c a _ P ⟨rfl,d,u,rfl,t,K,q,k⟩;dsimp only;by_cases f:u >= hint+1
   ·rw[if_pos f];exact wpS_pure (rfl,d,u,rfl,t,q,k,.inl f)
   rw[if_neg f];refine wpS_bind (J _ (by lia) _ ?_);cases B:e (hint - u)
   ·exact wpS_pure (rfl,u,_,rfl,by lia,by lia,by lia,B)
   ·exact wpS_pure (rfl,d,u,rfl,t,q,k,.inr B)
  ·rintro c a ⟨rfl,d,u,rfl,t,K,q,k⟩;exact(rfl,d,u,rfl,t,q,k,.inl (by lia))
  ·rintro c a ⟨rfl,d,u,rfl,t,q,k,y⟩;dsimp only;refine wpS_bind (bin _ _ (by lia) (by lia) (λi D=>?_) (λi z v=>H _ i z v k) _ λr G F M=>wpS_pure (h r G F M));rcases y with y|y
   ·lia
   ·exact g i _ (by lia) (by lia) y
 ·dsimp only;rw[if_pos rfl];refine wpS_bind (wpS_mono (wpS_forRange (I:=λx c a=>a=st /\ ∃d u,c=(pq none (pq d u))/\d<u/\x+1<=u/\hint+d<n/\e (hint+d)=true) (Q:=λc a=>a=st /\ ∃d u,c=(pq none (pq d u))/\d<u/\hint+d<n/\e (hint+d)=true/\(u >= n - hint\/e (hint+u)=false)) ?_ ?_ (rfl,0,1,rfl,by lia,by lia,by lia,C)) ?_)
  ·rintro x c a _ P ⟨rfl,d,u,rfl,t,K,q,k⟩;dsimp only;by_cases f:u >= n - hint
   ·rw[if_pos f];exact wpS_pure (rfl,d,u,rfl,t,q,k,.inl f)
   rw[if_neg f];refine wpS_bind (J _ (by lia) _ ?_);cases B:e (hint+u)
   ·exact wpS_pure (rfl,d,u,rfl,t,q,k,.inr B)
   ·exact wpS_pure (rfl,u,_,rfl,by lia,by lia,by lia,B)
  ·rintro c a ⟨rfl,d,u,rfl,t,K,q,k⟩;exact(rfl,d,u,rfl,t,q,k,.inl (by lia))
  ·rintro c a ⟨rfl,d,u,rfl,t,q,k,y⟩;dsimp only;refine wpS_bind (bin _ _ (by lia) (by lia) (λi D=>g i _ (by lia) (by lia) k) (λi z v=>?_) _ λr G F M=>wpS_pure (h r G F M));rcases y with y|y
   ·lia
   ·rcases aas u (n - hint)with c|c
    ·exact H _ i (by lia) v y
    ·lia
def ky(κ:KeyKind)(x:Keyed):κ.α:=(κ.keyOf x.1).getD κ.dflt
theorem Gk{st:SortSt}{x y:Keyed}{Q:Option Bool->SortSt->Prop}(i:κ.OneLt)(g:kindOf st=oneType')(f:∃a,κ.keyOf x.1=some a)(e:∃a,κ.keyOf y.1=some a)
  (h:Q (some (κ.blt (ky κ x) (ky κ y))) st):wpS (model prog w) A E s (lt' x y) Q st:=by
 obtain⟨a,d⟩:=f;obtain⟨b,c⟩:=e;have k:ky κ x=a:=by unfold ky;rw[d];rfl
 have j:ky κ y=b:=by unfold ky;rw[c];rfl
 rw[k,j]at h;rw[lt'_eq];refine wpS_bind (wpS_get ?_);rw[g,keyLt'_oneType];exact wpS_bind (wpS_lift (wpAny_attempt (i prog w A _ s _ _ a b d c (rfl,wpS_pure h))))
theorem bj{st:SortSt}{xs:Array Keyed}{i:Nat}{Q:Keyed->SortSt->Prop}(a:i<xs.size)(h:Q xs[i] st):wpS (model prog w) A E s (elem' xs i) Q st:=by
 rw[elem'_eq,getElem?_pos xs i a];exact wpS_pure h
def Sd(κ:KeyKind)(xs:Array Keyed)(lo a:Nat):Prop:=∀i j,lo<=i->i<=j->j<a->κ.kle (KK κ xs i) (KK κ xs j)
theorem bM{xs:Array Keyed}{i:Nat}(a:i<xs.size):KK κ xs i=ky κ xs[i]:=by
 unfold KK ky;rw[getElem?_pos xs i a]
theorem xR{st:SortSt}{left:Bool}{b:Keyed}{xs:Array Keyed}{base n hint:Nat}{Q:Option Nat->SortSt->Prop}(m:κ.OneLt)(k:kindOf st=oneType')(q:KeysOf κ xs)(g:∃a,κ.keyOf b.1=some a)(o:Sd κ xs base (base+n))(u:base+n<=xs.size)(p:hint<n)
  (h:∀r,r<=n->(∀i,i<r->(if left then κ.blt (KK κ xs (base+i)) (ky κ b)else !κ.blt (ky κ b) (KK κ xs (base+i)))=true)->(∀i,r<=i->i<n->(if left then κ.blt (KK κ xs (base+i)) (ky κ b)else !κ.blt (ky κ b) (KK κ xs (base+i)))=false)->Q (some r) st):
  wpS (model prog w) A E s (fW left b xs base n hint) Q st:=by
 rw[Fq];have c:∀i (l:i<xs.size),∃a,κ.keyOf xs[i].1=some a:=λi l=>q _ (aco _);refine Nb (λi=>if left then κ.blt (KK κ xs (base+i)) (ky κ b)else !κ.blt (ky κ b) (KK κ xs (base+i))) p (λi l x f=>?_) (λi j t v d=>?_) h
 ·rw[bM (by lia)]at f;unfold Gm;refine wpS_bind (bj (by lia) ?_);cases left
  ·rw[if_neg (by decide)];exact wpS_bind (Gk m k g (c _ (by lia)) (wpS_pure f))
  ·rw[if_pos rfl];exact Gk m k (c _ (by lia)) g f
 ·have e:=o (base+i) (base+j) (by lia) (by lia) (by lia);cases left
  ·have d:(!κ.blt (ky κ b) (KK κ xs (base+j)))=true:=d;show (!κ.blt (ky κ b) (KK κ xs (base+i)))=true;rw[ag8]at d ⊢;exact KeyOrd.kle_trans e d
  ·exact KeyOrd.klt_of_kle_of_klt e d
theorem jQ{st:SortSt}{c:Keyed}{xs:Array Keyed}{base n hint:Nat}{Q:Option Nat->SortSt->Prop}(m:κ.OneLt)(j:kindOf st=oneType')(o:KeysOf κ xs)(d:∃a,κ.keyOf c.1=some a)(e:Sd κ xs base (base+n))(g:base+n<=xs.size)(l:hint<n)
  (h:∀r,r<=n->(∀i,i<r->κ.kle (KK κ xs (base+i)) (ky κ c))->(∀i,r<=i->i<n->κ.klt (ky κ c) (KK κ xs (base+i)))->Q (some r) st):wpS (model prog w) A E s (fW false c xs base n hint) Q st:=by
 refine xR m j o d e g l λr f t p=>h r f (λi k=>?_) λi a b=>?_
 ·have q:(!κ.blt (ky κ c) (KK κ xs (base+i)))=true:=t i k;rw[ag8]at q;exact q
 ·have q:(!κ.blt (ky κ c) (KK κ xs (base+i)))=false:=p i a b;rw[Bool.not_eq_false']at q;exact q
theorem gf{st:SortSt}{c:Keyed}{xs:Array Keyed}{base n hint:Nat}{Q:Option Nat->SortSt->Prop}(m:κ.OneLt)(j:kindOf st=oneType')(o:KeysOf κ xs)(d:∃a,κ.keyOf c.1=some a)(e:Sd κ xs base (base+n))(g:base+n<=xs.size)(l:hint<n)
  (h:∀r,r<=n->(∀i,i<r->κ.klt (KK κ xs (base+i)) (ky κ c))->(∀i,r<=i->i<n->κ.kle (ky κ c) (KK κ xs (base+i)))->Q (some r) st):wpS (model prog w) A E s (fW true c xs base n hint) Q st:=
 xR m j o d e g l λr f q p=>h r f (λi k=>q i k) λi a b=>p i a b
end
set_option autoImplicit false
structure MI(le:Keyed->Keyed->Prop)(L O X Y:List Keyed):Prop where
 perm:afv (O++X++Y) L
 so:O.Pairwise le
 sx:X.Pairwise le
 sy:Y.Pairwise le
 ox:∀o∈O,∀x∈X,le o x
 oy:∀o∈O,∀y∈Y,le o y
theorem MI.left{d:Keyed->Keyed->Prop}{L O X e Y:List Keyed}(h:MI d L O (X++e) Y)(f:∀x∈X,∀y∈Y,d x y):MI d L (O++X) e Y:=by
 have s:=aew.mp h.sx;refine(by rw[abm O X e];exact h.perm,aew.mpr (h.so,s.1,λo a x c=>h.ox o a x (afU _ c)),s.2.1,h.sy,λo a x c=>?_,λo a y b=>?_)
 ·rcases abn.mp a with a|a
  ·exact h.ox o a x (aav _ c)
  ·exact s.2.2 o a x c
 ·rcases abn.mp a with a|a
  ·exact h.oy o a y b
  ·exact f o a y b
theorem MI.right{d:Keyed->Keyed->Prop}{L O X Y e:List Keyed}(h:MI d L O X (Y++e))(f:∀y∈Y,∀x∈X,d y x):MI d L (O++Y) X e:=by
 have s:=aew.mp h.sy;refine(aiF ?_ h.perm,aew.mpr (h.so,s.1,λo a y c=>h.oy o a y (afU _ c)),h.sx,s.2.1,λo a x b=>?_,λo a y c=>?_)
 ·rw[abm O Y X,abm,abm O X,<-abm X,abm Y];refine ahW O ?_;rw[<-abm];exact(ahX).append_right e
 ·rcases abn.mp a with a|a
  ·exact h.ox o a x b
  ·exact f o a x b
 ·rcases abn.mp a with a|a
  ·exact h.oy o a y (aav _ c)
  ·exact s.2.2 o a y c
def Fin(a:Keyed->Keyed->Prop)(L r:List Keyed):Prop:=afv r L/\r.Pairwise a
theorem MI.xy{c:Keyed->Keyed->Prop}{L O X Y:List Keyed}(h:MI c L O X Y)(d:∀x∈X,∀y∈Y,c x y):Fin c L (O++X++Y):=by
 refine(h.perm,aew.mpr (aew.mpr (h.so,h.sx,h.ox),h.sy,λa b y e=>?_));rcases abn.mp b with b|b
 ·exact h.oy a b y e
 ·exact d a b y e
theorem MI.yx{c:Keyed->Keyed->Prop}{L O X Y:List Keyed}(h:MI c L O X Y)(d:∀y∈Y,∀x∈X,c y x):Fin c L (O++Y++X):=by
 refine(aiF ?_ h.perm,aew.mpr (aew.mpr (h.so,h.sy,h.oy),h.sx,λa b x e=>?_))
 ·rw[abm,abm];exact ahW O ahX
 ·rcases abn.mp b with b|b
  ·exact h.ox a b x e
  ·exact d a b x e
def uE:Array Keyed->Array Keyed->StateT SortSt Sem (Array Keyed):=sortPriv% PySem.Builtin.mergeLo
def setG:Nat->StateT SortSt Sem Unit:=sortPriv% PySem.Builtin.setMinGallop
theorem Mx(g:Nat):setG g=modify λst=>SortSt.mk' (kindOf st) (arrOf st) (pendingOf st) g (failedOf st):=rfl
def mlo(a b:Array Keyed):StateT SortSt Sem (Array Keyed):=do
 rule "list.sort.merge-lo"
 let t:=a.size+b.size
 let c (o:Array Keyed) (i j:Nat):=o++a.extract i a.size++b.extract j b.size
 let d (o:Array Keyed) (i j:Nat):=o++b.extract j b.size++a.extract i a.size
 let mut o:Array Keyed:=#[<-elem' b 0]
 let mut i:=0
 let mut j:=1
 if j == b.size then return c o i j
 if i+1 == a.size then return d o i j
 let mut g:=gallopOf (<-get)
 for _ in [0:t] do
  let mut p:=0
  let mut q:=0
  for _ in [0:t] do
   let some v <-lt' (<-elem' b j) (<-elem' a i) | return c o i j
   if v then
    o:=o.push (<-elem' b j);j:=j+1;q:=q+1;p:=0
    if j == b.size then return c o i j
    if q >= g then break
   else
    o:=o.push (<-elem' a i);i:=i+1;p:=p+1;q:=0
    if i+1 == a.size then return d o i j
    if p >= g then break
  rule "list.sort.gallop"
  g:=g+1
  for _ in [0:t] do
   if g > 1 then g:=g - 1
   setG g
   let some k <-fW false (<-elem' b j) a i (a.size - i) 0|return c o i j
   p:=k
   if k > 0 then
    o:=o++a.extract i (i+k);i:=i+k
    if i+1 == a.size then return d o i j
    if i == a.size then return c o i j
   o:=o.push (<-elem' b j);j:=j+1
   if j == b.size then return c o i j
   let some k <-fW true (<-elem' a i) b j (b.size - j) 0|return c o i j
   q:=k
   if k > 0 then
    o:=o++b.extract j (j+k);j:=j+k
    if j == b.size then return c o i j
   o:=o.push (<-elem' a i);i:=i+1
   if i+1 == a.size then return d o i j
   if p<7 && q<7 then break
  g:=g+1
  setG g
 (unsupported "internal:list.sort.merge-bound" : StateT SortSt Sem (Array Keyed))
theorem Bk(a b:Array Keyed):uE a b=mlo a b:=rfl
section
variable{κ:KeyKind}
theorem aP{c:Prop}[Decidable c]{x y:StateT SortSt Sem O}{Q:O->SortSt->Prop}{st:SortSt}(b:c->wpS (model prog w) A E s x Q st)(a:¬c->wpS (model prog w) A E s y Q st):wpS (model prog w) A E s (if c then x else y) Q st:=by
 by_cases h:c
 ·rw[if_pos h];exact b h
 ·rw[if_neg h];exact a h
def kl(κ:KeyKind)(x y:Keyed):Prop:=κ.kle (ky κ x) (ky κ y)
theorem dJ{x y z:Keyed}(h:kl κ x y)(g:kl κ y z):kl κ x z:=KeyOrd.kle_trans h g
theorem uC{xs:Array Keyed}(h:xs.toList.Pairwise (kl κ)){lo :Nat}(c:n<=xs.size):Sd κ xs lo n:=λi j _ a b=>by
 rw[bM (show i<xs.size by lia),bM (show j<xs.size by lia)];by_cases e:i=j
 ·subst e;exact KeyOrd.kle_refl _
 have q:=abR.mp h i j (by rw[aae];lia) (by rw[aae];lia) (by lia);rw[acp,acp]at q;exact q
theorem yz{xs:Array Keyed}{i:Nat}(a:i<xs.size):xs.toList.drop i=[xs[i]]++xs.toList.drop (i+1):=by
 rw[abV (by rw[aae];exact a),acp];rfl
theorem eY{xs:Array Keyed}{i:Nat}{x:Keyed}(h:x∈xs.toList.drop i):∃k,∃a:i+k<xs.size,x=xs[i+k]:=by
 obtain⟨k,a,e⟩:=afY h;rw[abU,aae]at a;refine(k,by lia,?_);rw[<-e,agz,acp]
theorem jF{xs:Array Keyed}{i k:Nat}{x:Keyed}(h:x∈(xs.toList.drop i).take k):∃d,d<k /\ ∃hd:i+d<xs.size,x=xs[i+d]:=by
 obtain⟨d,hd,e⟩:=afY h;rw[aaI,abU,aae]at hd;refine(d,by lia,by lia,?_);rw[<-e,agS,agz,acp]
theorem nD(xs:Array Keyed)(i k:Nat):(xs.extract i (i+k)).toList=(xs.toList.drop i).take k:=by
 rw[agu,af9,af2]
theorem mZ(xs:Array Keyed)(i:Nat):(xs.extract i xs.size).toList=xs.toList.drop i:=by
 rw[agu,af9,aai (by rw[abU,aae];lia)]
section
variable{le:Keyed->Keyed->Prop}{L:List Keyed}{o a b:Array Keyed}{j k:Nat}{X:List Keyed}
theorem MI.pushR(h:MI le L o.toList X (b.toList.drop j))(f:j<b.size)(e:∀x∈X,le b[j] x):MI le L (o.push b[j]).toList X (b.toList.drop (j+1)):=by
 rw[yz f]at h;rw[af8];exact h.right λy d x c=>by rw[aaj.mp d];exact e x c
theorem MI.pushL(h:MI le L o.toList (a.toList.drop i) X)(f:i<a.size)(e:∀x∈X,le a[i] x):MI le L (o.push a[i]).toList (a.toList.drop (i+1)) X:=by
 rw[yz f]at h;rw[af8];exact h.left λy d x c=>by rw[aaj.mp d];exact e x c
theorem MI.moreR(h:MI le L o.toList X (b.toList.drop j))(c:∀y∈(b.toList.drop j).take k,∀x∈X,le y x):MI le L (o++b.extract j (j+k)).toList X (b.toList.drop (j+k)):=by
 rw[<-acA k (b.toList.drop j),aha]at h;rw[abY,nD];exact h.right c
theorem MI.moreL(h:MI le L o.toList (a.toList.drop i) X)(c:∀y∈(a.toList.drop i).take k,∀x∈X,le y x):MI le L (o++a.extract i (i+k)).toList (a.toList.drop (i+k)) X:=by
 rw[<-acA k (a.toList.drop i),aha]at h;rw[abY,nD];exact h.left c
theorem MI.fa(h:MI le L o.toList (a.toList.drop i) (b.toList.drop j))(c:∀x∈a.toList.drop i,∀y∈b.toList.drop j,le x y):Fin le L (o++a.extract i a.size++b.extract j b.size).toList:=by
 rw[abY,abY,mZ,mZ];exact h.xy c
theorem MI.fb(h:MI le L o.toList (a.toList.drop i) (b.toList.drop j))(c:∀y∈b.toList.drop j,∀x∈a.toList.drop i,le y x):Fin le L (o++b.extract j b.size++a.extract i a.size).toList:=by
 rw[abY,abY,mZ,mZ];exact h.yx c
theorem iC(h:b.size<=j):b.toList.drop j=[]:=ahR (by rw[aae];exact h)
end
structure cN(st st':SortSt):Prop where
 kind:kindOf st'=kindOf st
 arr:arrOf st'=arrOf st
 pend:pendingOf st'=pendingOf st
 failed:failedOf st'=failedOf st
theorem cN.refl(st:SortSt):cN st st:=(rfl,rfl,rfl,rfl)
theorem uw{st:SortSt}{g:Nat}{Q:Unit->SortSt->Prop}(b:cN G st)(h:∀a,cN G a->Q () a):wpS (model prog w) A E s (setG g) Q st:=by
 rw[Mx];exact wpS_modify (h _ (b.kind,b.arr,b.pend,b.failed))
theorem Fy{st:SortSt}{a b:Array Keyed}{Q:Array Keyed->SortSt->Prop}(hO:κ.OneLt)(hk:kindOf st=oneType')(hA:KeysOf κ a)(hB:KeysOf κ b)(sa:a.toList.Pairwise (kl κ))(sb:b.toList.Pairwise (kl κ))(na:0<a.size)(nb:0<b.size)
  (hf:∀x∈a.toList,kl κ b[0] x)(hl:∀y∈b.toList,kl κ y (a[a.size - 1]'(by omega)))(h:∀r m,cN st m->Fin (kl κ) (a.toList++b.toList) r.toList->Q r m):wpS (model prog w) A E s (uE a b) Q st:=by
 have kA:∀i (C:i<a.size),∃x,κ.keyOf a[i].1=some x:=λi C=>hA _ (aco _);have kB:∀i (C:i<b.size),∃x,κ.keyOf b[i].1=some x:=λi C=>hB _ (aco _);have B:∀i j,i+1=a.size -> ∀y∈b.toList.drop j,∀x∈a.toList.drop i,kl κ y x:=λi j C y f x F=>by
  obtain⟨k,hk,rfl⟩:=eY F;have:i+k=a.size - 1:=by lia
  have q:=hl y (agg f);simp only[this];exact q
 have sA:=λlo=>uC sa (lo:=lo) (aac _);have sB:=λlo=>uC sb (lo:=lo) (aac _);have M0:MI (kl κ) (a.toList++b.toList) (#[b[0]]:Array Keyed).toList (a.toList.drop 0) (b.toList.drop 1):=by
  have M:MI (kl κ) (a.toList++b.toList) (#[]:Array Keyed).toList (a.toList.drop 0) (b.toList.drop 0):=(.rfl,.nil,sa,sb,λo ho=>(agp ho).elim,λo ho=>(agp ho).elim);exact M.pushR nb λx F=>hf x F
 rw[Bk];unfold mlo;refine wpS_bind (wpS_lift (wpAny_rule (rfl,?_)));refine wpS_bind (bj nb ?_);refine aP (λc=>wpS_pure (h _ _ (cN.refl _) (M0.fa λx _ y f=>?_))) λc1=>?_
 ·rw[iC (by have:=beq_iff_eq.mp c;lia)]at f;cases f
 refine aP (λc=>wpS_pure (h _ _ (cN.refl _) (M0.fb (B _ _ (beq_iff_eq.mp c))))) λc2=>?_;have c1:1≠b.size:=λz=>c1 (beq_iff_eq.mpr z);have c2:0+1≠a.size:=λz=>c2 (beq_iff_eq.mpr z);refine wpS_bind (wpS_get ?_);have a7:∀r m,cN st m->Fin (kl κ) (a.toList++b.toList) r.toList->Q r m:=h;refine wpS_bind (wpS_mono (wpS_forRange (I:=λx c m=>cN st m /\ ∃o i j g,c=(pq none (pq o (pq i (pq j g))))/\MI (kl κ) (a.toList++b.toList) o.toList (a.toList.drop i) (b.toList.drop j)/\i+1<a.size/\j<b.size/\x+1<=i+j)
  (Q:=λc m=>cN st m /\ ∃r,c.1=some r/\Fin (kl κ) (a.toList++b.toList) r.toList) ?_ ?_ (cN.refl _,_,0,1,_,rfl,M0,by lia,by lia,by lia)) ?_)
 ·rintro x c S _ F ⟨L,o,i,j,g,rfl,M,C,t,K⟩;refine wpS_bind (wpS_mono (wpS_forRange (I:=λy c m=>cN st m /\ ∃o i j p q,c=(pq none (pq o (pq i (pq j (pq p q)))))/\MI (kl κ) (a.toList++b.toList) o.toList (a.toList.drop i) (b.toList.drop j)/\i+1<a.size/\j<b.size/\x+1+y<=i+j)
   (Q:=λc m=>cN st m/\((∃r,c.1=some r/\Fin (kl κ) (a.toList++b.toList) r.toList) \/ ∃o i j p q,c=(pq none (pq o (pq i (pq j (pq p q)))))/\MI (kl κ) (a.toList++b.toList) o.toList (a.toList.drop i) (b.toList.drop j)/\i+1<a.size/\j<b.size/\x+2<=i+j)) ?_ ?_ (L,o,i,j,0,0,rfl,M,C,t,K)) ?_)
  ·rintro y c a1 _ f ⟨u,o,i,j,p,q,rfl,M,C,t,K⟩;refine wpS_bind (bj t (wpS_bind (bj (show i<a.size by lia) (wpS_bind (Gk hO (u.kind.trans hk) (kB j t) (kA i (by lia)) ?_)))));cases hv:κ.blt (ky κ b[j]) (ky κ (a[i]'(by omega)))
   ·refine aP (λz=>absurd z (by decide)) λ_=>?_;refine wpS_bind (bj (show i<a.size by lia) ?_);have R:=M.pushL (show i<a.size by lia) λy f=>by
     obtain⟨d,hd,rfl⟩:=eY f;have q:=sB j j (j+d) (aac _) (by lia) hd;rw[bM t,bM hd]at q;exact dJ hv q
    refine aP (λz=>wpS_pure (u,.inl (_,rfl,R.fb (B _ _ (beq_iff_eq.mp z))))) λz=>?_;have z:i+1+1≠a.size:=λe=>z (beq_iff_eq.mpr e);exact aP (λ_=>wpS_pure (u,.inr (_,i+1,j,_,_,rfl,R,by lia,t,by lia))) λ_=>wpS_pure (u,_,i+1,j,_,_,rfl,R,by lia,t,by lia)
   ·refine aP (λ_=>?_) λz=>absurd rfl z;refine wpS_bind (bj t ?_);have R:=M.pushR t λy f=>by
     obtain⟨d,hd,rfl⟩:=eY f;have q:=sA i i (i+d) (aac _) (by lia) hd;rw[bM (show i<a.size by lia),bM hd]at q;exact dJ (KeyOrd.kle_of_klt hv) q
    refine aP (λz=>wpS_pure (u,.inl (_,rfl,R.fa λx _ y f=>?_))) λz=>?_
    ·have z:j+1=b.size:=beq_iff_eq.mp z;rw[iC (by lia)]at f;cases f
    have z:j+1≠b.size:=λe=>z (beq_iff_eq.mpr e);exact aP (λ_=>wpS_pure (u,.inr (_,i,j+1,_,_,rfl,R,C,by lia,by lia))) λ_=>wpS_pure (u,_,i,j+1,_,_,rfl,R,C,by lia,by lia)
  ·rintro c a1 ⟨u,o,i,j,p,q,rfl,M,C,t,K⟩;exact(u,.inr (o,i,j,p,q,rfl,M,C,t,by lia))
  ·rintro c a1 ⟨u,hc⟩;rcases hc with ⟨r,Z,hF⟩|⟨o,i,j,p,q,rfl,M,C,t,K⟩
   ·obtain⟨c1,c2⟩:=c;cases Z;exact wpS_pure (u,r,rfl,hF)
   refine wpS_bind (wpS_lift (wpAny_rule (rfl,?_)));refine wpS_bind (wpS_mono (wpS_forRange (I:=λy c m=>cN st m /\ ∃o i j g p q,c=(pq none (pq o (pq i (pq j (pq g (pq p q))))))/\MI (kl κ) (a.toList++b.toList) o.toList (a.toList.drop i) (b.toList.drop j)/\i+1<a.size/\j<b.size/\x+2<=i+j)
    (Q:=λc m=>cN st m/\((∃r,c.1=some r/\Fin (kl κ) (a.toList++b.toList) r.toList) \/ ∃o i j g p q,c=(pq none (pq o (pq i (pq j (pq g (pq p q))))))/\MI (kl κ) (a.toList++b.toList) o.toList (a.toList.drop i) (b.toList.drop j)/\i+1<a.size/\j<b.size/\x+2<=i+j)) ?_ ?_ (u,o,i,j,_,p,q,rfl,M,C,t,K)) ?_)
   ·rintro y c a0 _ f ⟨W,o,i,j,g,p,q,rfl,M,C,t,K⟩;refine aP (λ_=>?_) λ_=>?_
    all_goals
     refine wpS_bind (uw W λUt v=>?_);refine wpS_bind (bj t (wpS_bind (jQ (base:=i) (n:=a.size - i) (hint:=0) hO (v.kind.trans hk) hA (kB j t) (by rw[show i+(a.size - i)=a.size by lia];exact sA i) (by lia) (by lia) λk a6 a4 a3=>?_)));have M1:MI (kl κ) (a.toList++b.toList) (o++a.extract i (i+k)).toList (a.toList.drop (i+k)) (b.toList.drop j):=M.moreL λx F y f=>by
      obtain⟨d,hd,J,rfl⟩:=jF F;obtain⟨e,O,rfl⟩:=eY f;have D:=a4 d hd;rw[bM J]at D;have N:=sB j j (j+e) (aac _) (by lia) O;rw[bM t,bM O]at N;exact dJ D N
     have B1:∀x∈a.toList.drop (i+k),kl κ b[j] x:=λx F=>by
      obtain⟨d,hd,rfl⟩:=eY F;have D:=a3 (k+d) (by lia) (by lia);rw[show i+(k+d)=i+k+d by lia,bM hd]at D;exact KeyOrd.kle_of_klt D
     refine aP (λa5=>aP (λz=>wpS_pure (v,.inl (_,rfl,M1.fb (B _ _ (beq_iff_eq.mp z))))) λz1=>aP (λz=>wpS_pure (v,.inl (_,rfl,M1.fa λx F=>?_))) λz2=>?_) λa5=>?_
     ·have z:i+k=a.size:=beq_iff_eq.mp z;rw[iC (by lia)]at F;cases F
     ·have z1:i+k+1≠a.size:=λe=>z1 (beq_iff_eq.mpr e);have z2:i+k≠a.size:=λe=>z2 (beq_iff_eq.mpr e);refine wpS_bind (bj t ?_);have P:=M1.pushR t B1;refine aP (λz=>wpS_pure (v,.inl (_,rfl,P.fa λx _ y f=>?_))) λY=>?_
      ·have z:j+1=b.size:=beq_iff_eq.mp z;rw[iC (by lia)]at f;cases f
      have Y:j+1≠b.size:=λe=>Y (beq_iff_eq.mpr e);refine wpS_bind (bj (show i+k<a.size by lia) (wpS_bind (gf (base:=j+1) (n:=b.size - (j+1)) (hint:=0) hO (v.kind.trans hk) hB (kA (i+k) (by lia)) (by rw[show j+1+(b.size - (j+1))=b.size by lia];exact sB _) (by lia) (by lia) λl a2 U T=>?_)));have M4:=P.moreR (k:=l) λy f x F=>by
       obtain⟨d,hd,J,rfl⟩:=jF f;obtain⟨e,O,rfl⟩:=eY F;have D:=U d hd;rw[bM J]at D;have N:=sA (i+k) (i+k) (i+k+e) (aac _) (by lia) O;rw[bM (show i+k<a.size by lia),bM O]at N;exact dJ (KeyOrd.kle_of_klt D) N
      have A4:∀y∈b.toList.drop (j+1+l),kl κ (a[i+k]'(by omega)) y:=λy f=>by
       obtain⟨d,hd,rfl⟩:=eY f;have D:=T (l+d) (by lia) (by lia);rw[show j+1+(l+d)=j+1+l+d by lia,bM hd]at D;exact D
      refine aP (λV=>aP (λz=>wpS_pure (v,.inl (_,rfl,M4.fa λx _ y f=>?_))) λX=>?_) λV=>?_
      ·have z:j+1+l=b.size:=beq_iff_eq.mp z;rw[iC (by lia)]at f;cases f
      ·have X:j+1+l≠b.size:=λe=>X (beq_iff_eq.mpr e);refine wpS_bind (bj (show i+k<a.size by lia) ?_);have G:=M4.pushL (show i+k<a.size by lia) A4;refine aP (λz=>wpS_pure (v,.inl (_,rfl,G.fb (B _ _ (beq_iff_eq.mp z))))) λH=>?_;have H:i+k+1+1≠a.size:=λe=>H (beq_iff_eq.mpr e);exact aP (λ_=>wpS_pure (v,.inr (_,i+k+1,j+1+l,_,_,_,rfl,G,by lia,by lia,by lia))) λ_=>wpS_pure (v,_,i+k+1,j+1+l,_,_,_,rfl,G,by lia,by lia,by lia)
      ·have:l=0:=by lia
       subst this;refine wpS_bind (bj (show i+k<a.size by lia) ?_);have G:=P.pushL (show i+k<a.size by lia) A4;refine aP (λz=>wpS_pure (v,.inl (_,rfl,G.fb (B _ _ (beq_iff_eq.mp z))))) λH=>?_;have H:i+k+1+1≠a.size:=λe=>H (beq_iff_eq.mpr e);exact aP (λ_=>wpS_pure (v,.inr (_,i+k+1,j+1,_,_,_,rfl,G,by lia,by lia,by lia))) λ_=>wpS_pure (v,_,i+k+1,j+1,_,_,_,rfl,G,by lia,by lia,by lia)
     ·have:k=0:=by lia
      subst this;refine wpS_bind (bj t ?_);have P:=M.pushR t B1;refine aP (λz=>wpS_pure (v,.inl (_,rfl,P.fa λx _ y f=>?_))) λY=>?_
      ·have z:j+1=b.size:=beq_iff_eq.mp z;rw[iC (by lia)]at f;cases f
      have Y:j+1≠b.size:=λe=>Y (beq_iff_eq.mpr e);refine wpS_bind (bj (show i<a.size by lia) (wpS_bind (gf (base:=j+1) (n:=b.size - (j+1)) (hint:=0) hO (v.kind.trans hk) hB (kA (i) (by lia)) (by rw[show j+1+(b.size - (j+1))=b.size by lia];exact sB _) (by lia) (by lia) λl a2 U T=>?_)));have M4:=P.moreR (k:=l) λy f x F=>by
       obtain⟨d,hd,J,rfl⟩:=jF f;obtain⟨e,O,rfl⟩:=eY F;have D:=U d hd;rw[bM J]at D;have N:=sA (i) (i) (i+e) (aac _) (by lia) O;rw[bM (show i<a.size by lia),bM O]at N;exact dJ (KeyOrd.kle_of_klt D) N
      have A4:∀y∈b.toList.drop (j+1+l),kl κ (a[i]'(by omega)) y:=λy f=>by
       obtain⟨d,hd,rfl⟩:=eY f;have D:=T (l+d) (by lia) (by lia);rw[show j+1+(l+d)=j+1+l+d by lia,bM hd]at D;exact D
      refine aP (λV=>aP (λz=>wpS_pure (v,.inl (_,rfl,M4.fa λx _ y f=>?_))) λX=>?_) λV=>?_
      ·have z:j+1+l=b.size:=beq_iff_eq.mp z;rw[iC (by lia)]at f;cases f
      ·have X:j+1+l≠b.size:=λe=>X (beq_iff_eq.mpr e);refine wpS_bind (bj (show i<a.size by lia) ?_);have G:=M4.pushL (show i<a.size by lia) A4;refine aP (λz=>wpS_pure (v,.inl (_,rfl,G.fb (B _ _ (beq_iff_eq.mp z))))) λH=>?_;have H:i+1+1≠a.size:=λe=>H (beq_iff_eq.mpr e);exact aP (λ_=>wpS_pure (v,.inr (_,i+1,j+1+l,_,_,_,rfl,G,by lia,by lia,by lia))) λ_=>wpS_pure (v,_,i+1,j+1+l,_,_,_,rfl,G,by lia,by lia,by lia)
      ·have:l=0:=by lia
       subst this;refine wpS_bind (bj (show i<a.size by lia) ?_);have G:=P.pushL (show i<a.size by lia) A4;refine aP (λz=>wpS_pure (v,.inl (_,rfl,G.fb (B _ _ (beq_iff_eq.mp z))))) λH=>?_;have H:i+1+1≠a.size:=λe=>H (beq_iff_eq.mpr e);exact aP (λ_=>wpS_pure (v,.inr (_,i+1,j+1,_,_,_,rfl,G,by lia,by lia,by lia))) λ_=>wpS_pure (v,_,i+1,j+1,_,_,_,rfl,G,by lia,by lia,by lia)
   ·rintro c a0 ⟨W,o,i,j,g,p,q,rfl,M,C,t,K⟩;exact(W,.inr (o,i,j,g,p,q,rfl,M,C,t,K))
   ·rintro c a0 ⟨W,hc⟩;rcases hc with ⟨r,Z,hF⟩|⟨o,i,j,g,p,q,rfl,M,C,t,K⟩
    ·obtain⟨c1,c2⟩:=c;cases Z;exact wpS_pure (W,r,rfl,hF)
    exact wpS_bind (uw W λUt v=>wpS_pure (v,o,i,j,_,rfl,M,C,t,by lia))
 ·rintro c S ⟨L,o,i,j,g,rfl,M,C,t,K⟩;exfalso;lia
 ·rintro c S ⟨L,r,Z,hF⟩;obtain⟨c1,c2⟩:=c;cases Z;exact wpS_pure (h r S L hF)
end
set_option autoImplicit false
def vL:Array Keyed->Array Keyed->StateT SortSt Sem (Array Keyed):=sortPriv% PySem.Builtin.mergeHi
def mhi(a b:Array Keyed):StateT SortSt Sem (Array Keyed):=do
 rule "list.sort.merge-hi"
 let t:=a.size+b.size
 let c (o:Array Keyed) (m n:Nat):=a.extract 0 m++b.extract 0 n++o.reverse
 let d (o:Array Keyed) (m n:Nat):=b.extract 0 n++a.extract 0 m++o.reverse
 let mut m:=a.size - 1
 let mut n:=b.size
 let mut o:Array Keyed:=#[<-elem' a m]
 if m == 0 then return c o m n
 if n == 1 then return d o m n
 let mut g:=gallopOf (<-get)
 for _ in [0:t] do
  let mut p:=0
  let mut q:=0
  for _ in [0:t] do
   let some v <-lt' (<-elem' b (n - 1)) (<-elem' a (m - 1)) | return c o m n
   if v then
    m:=m - 1;o:=o.push (<-elem' a m);p:=p+1;q:=0
    if m == 0 then return c o m n
    if p >= g then break
   else
    n:=n - 1;o:=o.push (<-elem' b n);q:=q+1;p:=0
    if n == 1 then return d o m n
    if q >= g then break
  rule "list.sort.gallop"
  g:=g+1
  for _ in [0:t] do
   if g > 1 then g:=g - 1
   setG g
   let some z <-fW false (<-elem' b (n - 1)) a 0 m (m - 1) | return c o m n
   let k:=m - z
   p:=k
   if k > 0 then
    o:=o++(a.extract z m).reverse;m:=z
    if m == 0 then return c o m n
   n:=n - 1;o:=o.push (<-elem' b n)
   if n == 1 then return d o m n
   let some z <-fW true (<-elem' a (m - 1)) b 0 n (n - 1) | return c o m n
   let k:=n - z
   q:=k
   if k > 0 then
    o:=o++(b.extract z n).reverse;n:=z
    if n == 1 then return d o m n
    if n == 0 then return c o m n
   m:=m - 1;o:=o.push (<-elem' a m)
   if m == 0 then return c o m n
   if p<7 && q<7 then break
  g:=g+1
  setG g
 (unsupported "internal:list.sort.merge-bound" : StateT SortSt Sem (Array Keyed))
theorem Bg(a b:Array Keyed):vL a b=mhi a b:=rfl
section
variable{κ:KeyKind}
def kr(κ:KeyKind)(x y:Keyed):Prop:=kl κ y x
abbrev hd(xs:Array Keyed)(m:Nat):List Keyed:=(xs.toList.take m).reverse
theorem Gd{xs:Array Keyed}{m:Nat}(b:1<=m)(a:m<=xs.size):hd xs m=[xs[m - 1]'(by omega)]++hd xs (m - 1):=by
 obtain⟨k,rfl⟩:∃k,m=k+1:=(m - 1,by lia);unfold hd;rw[abW,aad (by rw[aae];lia),acp];simp
theorem Ku{xs:Array Keyed}{m :Nat}(hz:n<=m):hd xs m=((xs.toList.take m).drop n).reverse++hd xs n:=by
 unfold hd;rw[<-agk,show xs.toList.take n=(xs.toList.take m).take n by rw[ag9,aev hz],acA]
theorem eG{xs:Array Keyed}{m:Nat}{x:Keyed}(h:x∈hd xs m):∃d,d<m /\ ∃hd:d<xs.size,x=xs[d]:=by
 obtain⟨d,a,e⟩:=afY (agW.mp h);rw[aaI,aae]at a;exact(d,by lia,by lia,by rw[<-e,agS,acp])
theorem yQ{xs:Array Keyed}{m :Nat}{x:Keyed}(h:x∈((xs.toList.take m).drop n).reverse):∃d,n<=d/\d<m /\ ∃hd:d<xs.size,x=xs[d]:=by
 obtain⟨d,a,e⟩:=afY (agW.mp h);rw[abU,aaI,aae]at a;exact(n+d,by lia,by lia,by lia,by rw[<-e,agz,agS,acp])
section
variable{le:Keyed->Keyed->Prop}{L:List Keyed}{o a b:Array Keyed}{m z:Nat}{X:List Keyed}
theorem MI.popL(h:MI le L o.toList (hd a m) X)(g:1<=m)(f:m<=a.size)(e:∀x∈X,le (a[m - 1]'(by omega)) x):MI le L (o.push (a[m - 1]'(by omega))).toList (hd a (m - 1)) X:=by
 rw[Gd g f]at h;rw[af8];exact h.left λy d x c=>by rw[aaj.mp d];exact e x c
theorem MI.popR(h:MI le L o.toList X (hd b n))(g:1<=n)(f:n<=b.size)(e:∀x∈X,le (b[n - 1]'(by omega)) x):MI le L (o.push (b[n - 1]'(by omega))).toList X (hd b (n - 1)):=by
 rw[Gd g f]at h;rw[af8];exact h.right λy d x c=>by rw[aaj.mp d];exact e x c
theorem Bj(xs:Array Keyed)(m z:Nat):(o++(xs.extract z m).reverse).toList=o.toList++((xs.toList.take m).drop z).reverse:=by
 rw[abY,ahn,agu,af9,<-List.drop_take]
theorem MI.cutL(h:MI le L o.toList (hd a m) X)(hz:z<=m)(c:∀y∈((a.toList.take m).drop z).reverse,∀x∈X,le y x):MI le L (o++(a.extract z m).reverse).toList (hd a z) X:=by
 rw[Ku hz]at h;rw[Bj];exact h.left c
theorem MI.cutR(h:MI le L o.toList X (hd b n))(hz:z<=n)(c:∀y∈((b.toList.take n).drop z).reverse,∀x∈X,le y x):MI le L (o++(b.extract z n).reverse).toList X (hd b z):=by
 rw[Ku hz]at h;rw[Bj];exact h.right c
theorem G8{r:List Keyed}(h:Fin (kr κ) L r.reverse):Fin (kl κ) L r:=((ahH r).symm.trans h.1,agM.mp h.2)
theorem kE(xs:Array Keyed)(m:Nat):(xs.extract 0 m).toList=xs.toList.take m:=by
 rw[agu,af9,agU,agA]
theorem MI.ha(h:MI (kr κ) L o.toList (hd a m) (hd b n))(c:∀y∈hd b n,∀x∈hd a m,kr κ y x):Fin (kl κ) L (a.extract 0 m++b.extract 0 n++o.reverse).toList:=by
 refine G8 ?_;rw[abY,abY,kE,kE,ahn,agk,ah3,agk,<-abm];exact h.yx c
theorem MI.hb(h:MI (kr κ) L o.toList (hd a m) (hd b n))(c:∀x∈hd a m,∀y∈hd b n,kr κ x y):Fin (kl κ) L (b.extract 0 n++a.extract 0 m++o.reverse).toList:=by
 refine G8 ?_;rw[abY,abY,kE,kE,ahn,agk,ah3,agk,<-abm];exact h.xy c
end
theorem Fo{st:SortSt}{a b:Array Keyed}{Q:Array Keyed->SortSt->Prop}(hO:κ.OneLt)(hk:kindOf st=oneType')(hA:KeysOf κ a)(hB:KeysOf κ b)(sa:a.toList.Pairwise (kl κ))(sb:b.toList.Pairwise (kl κ))(na:0<a.size)(nb:0<b.size)
  (hf:∀x∈a.toList,kl κ b[0] x)(hl:∀y∈b.toList,kl κ y (a[a.size - 1]'(by omega)))(h:∀r t,cN st t->Fin (kl κ) (a.toList++b.toList) r.toList->Q r t):wpS (model prog w) A E s (vL a b) Q st:=by
 have kA:∀i (hi:i<a.size),∃x,κ.keyOf a[i].1=some x:=λi hi=>hA _ (aco _);have kB:∀i (hi:i<b.size),∃x,κ.keyOf b[i].1=some x:=λi hi=>hB _ (aco _);have first:∀m,∀x∈hd a m,∀y∈hd b 1,kr κ x y:=λm x J y F=>by
  obtain⟨d,a9,a8,rfl⟩:=eG F;have:d=0:=by lia
  subst this;exact hf x (agt (agW.mp J))
 have sA:=uC sa (lo:=0) (aac _);have sB:=uC sb (lo:=0) (aac _);have YJ:∀d e (hd:d<a.size) (T:e<a.size),d<=e->kl κ a[d] a[e]:=λd e hd T a1=>by
  have q:=sA d e (aaK _) a1 T;rw[bM hd,bM T]at q;exact q
 have a4:∀d e (hd:d<b.size) (T:e<b.size),d<=e->kl κ b[d] b[e]:=λd e hd T a1=>by
  have q:=sB d e (aaK _) a1 T;rw[bM hd,bM T]at q;exact q
 have a7:∀y∈hd b b.size,∀x∈hd a 0,kr κ y x:=λy _ x J=>by
  obtain⟨d,hd,_⟩:=eG J;lia
 have S:∀n,∀y∈hd b n,∀x∈hd a 0,kr κ y x:=λn y _ x J=>by
  obtain⟨d,hd,_⟩:=eG J;lia
 have zB:∀m,∀y∈hd b 0,∀x∈hd a m,kr κ y x:=λm y F x _=>by
  obtain⟨d,hd,_⟩:=eG F;lia
 have M0:MI (kr κ) (a.toList++b.toList) (#[a[a.size - 1]'(by omega)]:Array Keyed).toList (hd a (a.size - 1)) (hd b b.size):=by
  have ea:a.toList.take a.size=a.toList:=aai (by rw[aae];exact aac _);have eb:b.toList.take b.size=b.toList:=aai (by rw[aae];exact aac _);have M:MI (kr κ) (a.toList++b.toList) (#[]:Array Keyed).toList (hd a a.size) (hd b b.size):=by
   refine(?_,.nil,?_,?_,λo ho=>(agp ho).elim,λo ho=>(agp ho).elim)
   ·show afv ([]++hd a a.size++hd b b.size) _;unfold hd;rw[ea,eb];exact(ahH _).append (ahH _)
   ·unfold hd;rw[ea];exact agM.mpr sa
   ·unfold hd;rw[eb];exact agM.mpr sb
  exact M.popL na (aac _) λy F=>hl y (by have:=agW.mp F;rw[eb]at this;exact this)
 rw[Bg];unfold mhi;refine wpS_bind (wpS_lift (wpAny_rule (rfl,?_)));refine wpS_bind (bj (show a.size - 1<a.size by lia) ?_);refine aP (λc=>wpS_pure (h _ _ (cN.refl _) (M0.ha ?_))) λc1=>?_
 ·have c:a.size - 1=0:=beq_iff_eq.mp c;rw[c];exact S _
 refine aP (λc=>wpS_pure (h _ _ (cN.refl _) (M0.hb ?_))) λc2=>?_
 ·have c:b.size=1:=beq_iff_eq.mp c;rw[c];exact first _
 have c1:a.size - 1≠0:=λz=>c1 (beq_iff_eq.mpr z);have c2:b.size≠1:=λz=>c2 (beq_iff_eq.mpr z);refine wpS_bind (wpS_get ?_);refine wpS_bind (wpS_mono (wpS_forRange (I:=λx c t=>cN st t /\ ∃m n o g,c=(pq none (pq m (pq n (pq o g))))/\MI (kr κ) (a.toList++b.toList) o.toList (hd a m) (hd b n)/\1<=m/\m<=a.size/\2<=n/\n<=b.size/\x+1+(m+n)<=a.size+b.size)
  (Q:=λc t=>cN st t /\ ∃r,c.1=some r/\Fin (kl κ) (a.toList++b.toList) r.toList) ?_ ?_ (cN.refl _,a.size - 1,b.size,_,_,rfl,M0,by lia,by lia,by lia,by lia,by lia)) ?_)
 ·rintro x c X _ J ⟨R,m,n,o,g,rfl,M,k,j,u,f,G⟩;refine wpS_bind (wpS_mono (wpS_forRange (I:=λy c t=>cN st t /\ ∃m n o p q,c=(pq none (pq m (pq n (pq o (pq p q)))))/\MI (kr κ) (a.toList++b.toList) o.toList (hd a m) (hd b n)/\1<=m/\m<=a.size/\2<=n/\n<=b.size/\x+1+y+(m+n)<=a.size+b.size)
   (Q:=λc t=>cN st t/\((∃r,c.1=some r/\Fin (kl κ) (a.toList++b.toList) r.toList) \/ ∃m n o p q,c=(pq none (pq m (pq n (pq o (pq p q)))))/\MI (kr κ) (a.toList++b.toList) o.toList (hd a m) (hd b n)/\1<=m/\m<=a.size/\2<=n/\n<=b.size/\x+2+(m+n)<=a.size+b.size)) ?_ ?_ (R,m,n,o,0,0,rfl,M,k,j,u,f,G)) ?_)
  ·rintro y c a3 _ F ⟨C,m,n,o,p,q,rfl,M,k,j,u,f,G⟩;refine wpS_bind (bj (show n - 1<b.size by lia) (wpS_bind (bj (show m - 1<a.size by lia) (wpS_bind (Gk hO (C.kind.trans hk) (kB (n - 1) (by lia)) (kA (m - 1) (by lia)) ?_)))));cases hv:κ.blt (ky κ (b[n - 1]'(by omega))) (ky κ (a[m - 1]'(by omega)))
   ·refine aP (λz=>absurd z (by decide)) λ_=>?_;refine wpS_bind (bj (show n - 1<b.size by lia) ?_);have W:=M.popR (by lia) f λx J=>by
     obtain⟨d,B,v,rfl⟩:=eG J;exact dJ (YJ d (m - 1) v (by lia) (by lia)) hv
    refine aP (λz=>wpS_pure (C,.inl (_,rfl,W.hb ?_))) λz=>?_
    ·have z:n - 1=1:=beq_iff_eq.mp z;rw[z];exact first _
    have z:n - 1≠1:=λe=>z (beq_iff_eq.mpr e);exact aP (λ_=>wpS_pure (C,.inr (m,n - 1,_,_,_,rfl,W,k,j,by lia,by lia,by lia))) λ_=>wpS_pure (C,m,n - 1,_,_,_,rfl,W,k,j,by lia,by lia,by lia)
   ·refine aP (λ_=>?_) λz=>absurd rfl z;refine wpS_bind (bj (show m - 1<a.size by lia) ?_);have W:=M.popL k j λy F=>by
     obtain⟨d,B,v,rfl⟩:=eG F;exact dJ (a4 d (n - 1) v (by lia) (by lia)) (KeyOrd.kle_of_klt hv)
    refine aP (λz=>wpS_pure (C,.inl (_,rfl,W.ha ?_))) λz=>?_
    ·have z:m - 1=0:=beq_iff_eq.mp z;rw[z];exact S _
    have z:m - 1≠0:=λe=>z (beq_iff_eq.mpr e);exact aP (λ_=>wpS_pure (C,.inr (m - 1,n,_,_,_,rfl,W,by lia,by lia,u,f,by lia))) λ_=>wpS_pure (C,m - 1,n,_,_,_,rfl,W,by lia,by lia,u,f,by lia)
  ·rintro c a3 ⟨C,m,n,o,p,q,rfl,M,k,j,u,f,G⟩;exact(C,.inr (m,n,o,p,q,rfl,M,k,j,u,f,by lia))
  ·rintro c a3 ⟨C,hc⟩;rcases hc with ⟨r,hr,hF⟩|⟨m,n,o,p,q,rfl,M,k,j,u,f,G⟩
   ·obtain⟨c1,c2⟩:=c;cases hr;exact wpS_pure (C,r,rfl,hF)
   refine wpS_bind (wpS_lift (wpAny_rule (rfl,?_)));refine wpS_bind (wpS_mono (wpS_forRange (I:=λy c t=>cN st t /\ ∃m n o g p q,c=(pq none (pq m (pq n (pq o (pq g (pq p q))))))/\MI (kr κ) (a.toList++b.toList) o.toList (hd a m) (hd b n)/\1<=m/\m<=a.size/\2<=n/\n<=b.size/\x+2+(m+n)<=a.size+b.size)
    (Q:=λc t=>cN st t/\((∃r,c.1=some r/\Fin (kl κ) (a.toList++b.toList) r.toList) \/ ∃m n o g p q,c=(pq none (pq m (pq n (pq o (pq g (pq p q))))))/\MI (kr κ) (a.toList++b.toList) o.toList (hd a m) (hd b n)/\1<=m/\m<=a.size/\2<=n/\n<=b.size/\x+2+(m+n)<=a.size+b.size)) ?_ ?_ (C,m,n,o,_,p,q,rfl,M,k,j,u,f,G)) ?_)
   ·rintro y c a2 _ F ⟨UT,m,n,o,g,p,q,rfl,M,k,j,u,f,G⟩;refine aP (λ_=>?_) λ_=>?_
    all_goals
     refine wpS_bind (uw UT λUt D=>?_);refine wpS_bind (bj (show n - 1<b.size by lia) (wpS_bind (jQ (base:=0) (n:=m) (hint:=m - 1) hO (D.kind.trans hk) hA (kB (n - 1) (by lia)) (by rw[agc];exact uC sa j) (by lia) (by lia) λz a5 P XJ=>?_)));have P:∀d (hd:d<a.size),d<z->kl κ a[d] (b[n - 1]'(by omega)):=λd hd a6=>by
      have q:=P d a6;rw[agc,bM hd]at q;exact q
     have XJ:∀d (hd:d<a.size),z<=d->d<m->kl κ (b[n - 1]'(by omega)) a[d]:=λd hd B v=>by
      have q:=XJ d B v;rw[agc,bM hd]at q;exact KeyOrd.kle_of_klt q
     have M1:MI (kr κ) (a.toList++b.toList) (o++(a.extract z m).reverse).toList (hd a z) (hd b n):=M.cutL a5 λx J y F=>by
      obtain⟨d,B,v,h3,rfl⟩:=yQ J;obtain⟨e,h4,h5,rfl⟩:=eG F;exact dJ (a4 e (n - 1) h5 (by lia) (by lia)) (XJ d h3 B v)
     refine aP (λZ=>aP (λc=>wpS_pure (D,.inl (_,rfl,M1.ha ?_))) λc3=>?_) λZ=>?_
     ·have c:z=0:=beq_iff_eq.mp c;rw[c];exact S _
     ·have c3:z≠0:=λe=>c3 (beq_iff_eq.mpr e);refine wpS_bind (bj (show n - 1<b.size by lia) ?_);have V:=M1.popR (by lia) f λx J=>by
       obtain⟨d,B,v,rfl⟩:=eG J;exact P d v B
      refine aP (λc=>wpS_pure (D,.inl (_,rfl,V.hb ?_))) λc4=>?_
      ·have c:n - 1=1:=beq_iff_eq.mp c;rw[c];exact first _
      have c4:n - 1≠1:=λe=>c4 (beq_iff_eq.mpr e);refine wpS_bind (bj (show z - 1<a.size by lia) (wpS_bind (gf (base:=0) (n:=n - 1) (hint:=n - 1 - 1) hO (D.kind.trans hk) hB (kA (z - 1) (by lia)) (by rw[agc];exact uC sb (by lia)) (by lia) (by lia) λl Y H L=>?_)));have H:∀d (hd:d<b.size),d<l->kl κ b[d] (a[z - 1]'(by omega)):=λd hd a0=>by
       have q:=H d a0;rw[agc,bM hd]at q;exact KeyOrd.kle_of_klt q
      have L:∀d (hd:d<b.size),l<=d->d<n - 1->kl κ (a[z - 1]'(by omega)) b[d]:=λd hd B v=>by
       have q:=L d B v;rw[agc,bM hd]at q;exact q
      have U:=V.cutR Y λy F x J=>by
       obtain⟨d,B,v,h3,rfl⟩:=yQ F;obtain⟨e,h4,h5,rfl⟩:=eG J;exact dJ (YJ e (z - 1) h5 (by lia) (by lia)) (L d h3 B v)
      refine aP (λN=>aP (λc=>wpS_pure (D,.inl (_,rfl,U.hb ?_))) λc6=>aP (λc=>wpS_pure (D,.inl (_,rfl,U.ha ?_))) λc7=>?_) λN=>?_
      ·have c:l=1:=beq_iff_eq.mp c;rw[c];exact first _
      ·have c:l=0:=beq_iff_eq.mp c;rw[c];exact zB _
      ·have c6:l≠1:=λe=>c6 (beq_iff_eq.mpr e);have c7:l≠0:=λe=>c7 (beq_iff_eq.mpr e);refine wpS_bind (bj (show z - 1<a.size by lia) ?_);have K:=U.popL (by lia) (by lia) λy F=>by obtain⟨d,B,v,rfl⟩:=eG F;exact H d v B
       refine aP (λc=>wpS_pure (D,.inl (_,rfl,K.ha ?_))) λO=>?_
       ·have c:z - 1=0:=beq_iff_eq.mp c;rw[c];exact S _
       have O:z - 1≠0:=λe=>O (beq_iff_eq.mpr e);exact aP (λ_=>wpS_pure (D,.inr (z - 1,l,_,_,_,_,rfl,K,by lia,by lia,by lia,by lia,by lia))) λ_=>wpS_pure (D,z - 1,l,_,_,_,_,rfl,K,by lia,by lia,by lia,by lia,by lia)
      ·have N:¬n - 1 - l > 0:=N;have:l=n - 1:=by lia
       subst this;refine wpS_bind (bj (show z - 1<a.size by lia) ?_);have K:=V.popL (by lia) (by lia) λy F=>by obtain⟨d,B,v,rfl⟩:=eG F;exact H d v B
       refine aP (λc=>wpS_pure (D,.inl (_,rfl,K.ha ?_))) λO=>?_
       ·have c:z - 1=0:=beq_iff_eq.mp c;rw[c];exact S _
       have O:z - 1≠0:=λe=>O (beq_iff_eq.mpr e);exact aP (λ_=>wpS_pure (D,.inr (z - 1,(n - 1),_,_,_,_,rfl,K,by lia,by lia,by lia,by lia,by lia))) λ_=>wpS_pure (D,z - 1,(n - 1),_,_,_,_,rfl,K,by lia,by lia,by lia,by lia,by lia)
     ·have Z:¬m - z > 0:=Z;have:z=m:=by lia
      subst this;refine wpS_bind (bj (show n - 1<b.size by lia) ?_);have V:=M.popR (by lia) f λx J=>by
       obtain⟨d,B,v,rfl⟩:=eG J;exact P d v B
      refine aP (λc=>wpS_pure (D,.inl (_,rfl,V.hb ?_))) λc4=>?_
      ·have c:n - 1=1:=beq_iff_eq.mp c;rw[c];exact first _
      have c4:n - 1≠1:=λe=>c4 (beq_iff_eq.mpr e);refine wpS_bind (bj (show z - 1<a.size by lia) (wpS_bind (gf (base:=0) (n:=n - 1) (hint:=n - 1 - 1) hO (D.kind.trans hk) hB (kA (z - 1) (by lia)) (by rw[agc];exact uC sb (by lia)) (by lia) (by lia) λl Y H L=>?_)));have H:∀d (hd:d<b.size),d<l->kl κ b[d] (a[z - 1]'(by omega)):=λd hd a0=>by
       have q:=H d a0;rw[agc,bM hd]at q;exact KeyOrd.kle_of_klt q
      have L:∀d (hd:d<b.size),l<=d->d<n - 1->kl κ (a[z - 1]'(by omega)) b[d]:=λd hd B v=>by
       have q:=L d B v;rw[agc,bM hd]at q;exact q
      have U:=V.cutR Y λy F x J=>by
       obtain⟨d,B,v,h3,rfl⟩:=yQ F;obtain⟨e,h4,h5,rfl⟩:=eG J;exact dJ (YJ e (z - 1) h5 (by lia) (by lia)) (L d h3 B v)
      refine aP (λN=>aP (λc=>wpS_pure (D,.inl (_,rfl,U.hb ?_))) λc6=>aP (λc=>wpS_pure (D,.inl (_,rfl,U.ha ?_))) λc7=>?_) λN=>?_
      ·have c:l=1:=beq_iff_eq.mp c;rw[c];exact first _
      ·have c:l=0:=beq_iff_eq.mp c;rw[c];exact zB _
      ·have c6:l≠1:=λe=>c6 (beq_iff_eq.mpr e);have c7:l≠0:=λe=>c7 (beq_iff_eq.mpr e);refine wpS_bind (bj (show z - 1<a.size by lia) ?_);have K:=U.popL (by lia) (by lia) λy F=>by obtain⟨d,B,v,rfl⟩:=eG F;exact H d v B
       refine aP (λc=>wpS_pure (D,.inl (_,rfl,K.ha ?_))) λO=>?_
       ·have c:z - 1=0:=beq_iff_eq.mp c;rw[c];exact S _
       have O:z - 1≠0:=λe=>O (beq_iff_eq.mpr e);exact aP (λ_=>wpS_pure (D,.inr (z - 1,l,_,_,_,_,rfl,K,by lia,by lia,by lia,by lia,by lia))) λ_=>wpS_pure (D,z - 1,l,_,_,_,_,rfl,K,by lia,by lia,by lia,by lia,by lia)
      ·have N:¬n - 1 - l > 0:=N;have:l=n - 1:=by lia
       subst this;refine wpS_bind (bj (show z - 1<a.size by lia) ?_);have K:=V.popL (by lia) (by lia) λy F=>by obtain⟨d,B,v,rfl⟩:=eG F;exact H d v B
       refine aP (λc=>wpS_pure (D,.inl (_,rfl,K.ha ?_))) λO=>?_
       ·have c:z - 1=0:=beq_iff_eq.mp c;rw[c];exact S _
       have O:z - 1≠0:=λe=>O (beq_iff_eq.mpr e);exact aP (λ_=>wpS_pure (D,.inr (z - 1,(n - 1),_,_,_,_,rfl,K,by lia,by lia,by lia,by lia,by lia))) λ_=>wpS_pure (D,z - 1,(n - 1),_,_,_,_,rfl,K,by lia,by lia,by lia,by lia,by lia)
   ·rintro c a2 ⟨UT,m,n,o,g,p,q,rfl,M,k,j,u,f,G⟩;exact(UT,.inr (m,n,o,g,p,q,rfl,M,k,j,u,f,G))
   ·rintro c a2 ⟨UT,hc⟩;rcases hc with ⟨r,hr,hF⟩|⟨m,n,o,g,p,q,rfl,M,k,j,u,f,G⟩
    ·obtain⟨c1,c2⟩:=c;cases hr;exact wpS_pure (UT,r,rfl,hF)
    exact wpS_bind (uw UT λUt D=>wpS_pure (D,m,n,o,_,rfl,M,k,j,u,f,by lia))
 ·rintro c X ⟨R,m,n,o,g,rfl,M,k,j,u,f,G⟩;exfalso;lia
 ·rintro c X ⟨R,r,hr,hF⟩;obtain⟨c1,c2⟩:=c;cases hr;exact wpS_pure (h r X R hF)
end
set_option autoImplicit false
theorem Af(i:Nat):mergeAt' i=(do
 let u <-get
 let (pq (some (pq sa (pq m pw))) (some (pq sb (pq n _)))):=(pq ((pendingOf u)[i]?) ((pendingOf u)[i+1]?)) | unsupported "internal:list.sort.pending"
 set (setPending u (((pendingOf u).setIfInBounds i (pq sa (pq (m+n) pw))).eraseIdxIfInBounds (i+1)))
 let some k <-fW false (<-elem' (arrOf u) sb) (arrOf u) sa m 0|return false
 let (pq sa m):=(pq (sa+k) (m - k))
 if m == 0 then return true
 let some n <-fW true (<-elem' (arrOf u) (sa+m - 1)) (arrOf u) sb n (n - 1) | return false
 if n == 0 then return true
 let x:=(arrOf u).extract sa sb
 let y:=(arrOf u).extract sb (sb+n)
 let r <-if m<=n then uE x y else vL x y
 modify λv=>setArr v (r.toList.zipIdx.foldl (λc (p,j)=>c.setIfInBounds (sa+j) p) (arrOf v))
 return (failedOf (<-get)).isNone):=rfl
def wr(xs:Array Keyed)(base:Nat)(r:List Keyed):Array Keyed:=r.zipIdx.foldl (λc (p,j)=>c.setIfInBounds (base+j) p) xs
theorem O3(base:Nat):∀(r:List Keyed) (n:Nat) (xs:Array Keyed),base+n+r.length<=xs.size->((r.zipIdx n).foldl (λc (p,j)=>c.setIfInBounds (base+j) p) xs).size=xs.size /\ ∀t:Nat,((r.zipIdx n).foldl (λc (p,j)=>c.setIfInBounds (base+j) p) xs)[t]?=if base+n<=t/\t<base+n+r.length then r[t - (base+n)]? else xs[t]?
 | [],n,xs,_=>(rfl,λt=>by rw[if_neg (by rw[ahV];lia)];rfl)
 | p::r,n,xs,h=>by
  rw[aaY]at h;have a:=O3 base r (n+1) (xs.setIfInBounds (base+n) p) (by rw[ahI];lia);rw[List.zipIdx_cons,aiC];refine(a.1.trans ahI,λt=>(a.2 t).trans ?_);rw[aaY];by_cases d:t=base+n
  ·subst d;rw[if_neg (by lia),if_pos (by lia),ag0,Array.getElem?_setIfInBounds_self_of_lt (by lia)];rfl
  by_cases b:base+(n+1)<=t/\t<base+(n+1)+r.length
  ·rw[if_pos b,if_pos (by lia),show t - (base+n)=t - (base+(n+1))+1 by lia,ahM]
  ·rw[if_neg b,if_neg (by lia),Array.getElem?_setIfInBounds_ne (by lia)]
theorem Dr{xs:Array Keyed}{base:Nat}{r:List Keyed}(h:base+r.length<=xs.size)(t:Nat):(wr xs base r)[t]?=if base<=t/\t<base+r.length then r[t - base]? else xs[t]?:=(O3 base r 0 xs h).2 t
theorem Mr{xs:Array Keyed}{base:Nat}{r:List Keyed}(h:base+r.length<=xs.size):(wr xs base r).toList=xs.toList.take base++r++xs.toList.drop (base+r.length):=by
 apply agR;intro t;have a:(xs.toList.take base).length=base:=by rw[aaI,aae];lia
 rw[abT,Dr h];by_cases b:t<base
 ·rw[if_neg (by lia),abm,aaw (by lia),afA b,abT]
 by_cases c:t<base+r.length
 ·rw[if_pos (by lia),abm,aaz (by lia),a,aaw (by lia)]
 ·rw[if_neg (by lia),aaz (by rw[aaf];lia),aaf,a,age,abT];congr 1;lia
section
variable{a₀:Array Keyed}{κ:KeyKind}{pd:Array (Nat×Nat×Nat)}
theorem NB{σ:Type}{M:Model}{st a:σ}{Q:PUnit->σ->Prop}(h:Q ⟨⟩ a):wpS M A E s (set a:StateT σ Sem PUnit) Q st:=by
 unfold wpS;rw[StateT.run_set];exact wpAny_pure (rfl,h)
theorem Ir{xs ys:Array Keyed}(h:KeysOf κ ys)(p:xs.Perm ys):KeysOf κ xs:=λq a=>h q ((agm.mp p).mem_iff.mp a)
theorem J6{xs:Array Keyed}(h:KeysOf κ xs){i:Nat}(b:i<xs.size):∃a,κ.keyOf xs[i].1=some a:=h _ (aco _)
theorem Cd{xs:Array Keyed}{lo n:Nat}(h:Sd κ xs lo (lo+n))(d:lo+n<=xs.size):((xs.toList.drop lo).take n).Pairwise (kl κ):=by
 refine abR.mpr λi j b a c=>?_;rw[aaI,abU,aae]at b a;rw[agS,agz,acp,agS,agz,acp];have q:=h (lo+i) (lo+j) (by lia) (by lia) (by lia);rw[bM (show lo+i<xs.size by lia),bM (show lo+j<xs.size by lia)]at q;exact q
theorem DG{st:SortSt}{i m f n R W4:Nat}{Q:Bool->SortSt->Prop}(hO:κ.OneLt)(h0:KeysOf κ a₀)(C:TB a₀ pd st)(h1:pd[i]?=some (pq U (pq m R)))(h2:pd[i+1]?=some (pq f (pq n W4)))(a6:f=U+m)(hm:1<=m)(hn:1<=n)(hz:f+n<=a₀.size)(G:Sd κ (arrOf st) U f)(F:Sd κ (arrOf st) f (f+n))
  (h:∀j,TB a₀ ((pd.setIfInBounds i (pq U (pq (m+n) R))).eraseIdxIfInBounds (i+1)) j->Sd κ (arrOf j) U (f+n)->(∀k:Nat,k<U\/f+n<=k->(arrOf j)[k]?=(arrOf st)[k]?)->Q true j):wpS (model prog w) A E s (mergeAt' i) Q st:=by
 have a8:=C.size;have N:KeysOf κ (arrOf st):=Ir h0 C.perm;rw[Af];refine wpS_bind (wpS_get ?_);dsimp only;rw[C.pend,h1,h2];dsimp only;refine wpS_bind (NB ?_);have O:TB a₀ ((pd.setIfInBounds i (pq U (pq (m+n) R))).eraseIdxIfInBounds (i+1)) (setPending st ((pd.setIfInBounds i (pq U (pq (m+n) R))).eraseIdxIfInBounds (i+1))):=(C.perm,C.kind,C.failed,rfl);refine wpS_bind (bj (show f<(arrOf st).size by lia) (wpS_bind (jQ hO O.kind N (J6 N (by lia)) (by rw[<-a6];exact G) (by lia) (by lia) λk b0 Z Y=>?_)));dsimp only;have ek:ky κ ((arrOf st)[f]'(by omega))=KK κ (arrOf st) f:=(bM _).symm;rw[ek]at Z Y;have I:∀t,U<=t->t<U+k->κ.kle (KK κ (arrOf st) t) (KK κ (arrOf st) f):=λt a b=>by
  have q:=Z (t - U) (by lia)
  rwa [show U+(t - U)=t by lia]at q
 have a5:∀t,U+k<=t->t<f->κ.klt (KK κ (arrOf st) f) (KK κ (arrOf st) t):=λt a b=>by
  have q:=Y (t - U) (by lia) (by lia)
  rwa [show U+(t - U)=t by lia]at q
 refine aP (λc=>wpS_pure (h _ O (λt u a b d=>?_) λt _=>rfl)) λc=>?_
 ·have c:m - k=0:=beq_iff_eq.mp c;by_cases L:u<f
  ·exact G t u a b L
  by_cases o:t<f
  ·exact KeyOrd.kle_trans (I t a (by lia)) (F f u (aac _) (by lia) d)
  ·exact F t u (by lia) b d
 have c:m - k≠0:=λe=>c (beq_iff_eq.mpr e);refine wpS_bind (bj (show U+k+(m - k) - 1<(arrOf st).size by lia) (wpS_bind (gf hO O.kind N (J6 N (by lia)) F (by lia) (by lia) λl a9 X W=>?_)));dsimp only;have el:ky κ ((arrOf st)[U+k+(m - k) - 1]'(by omega))=KK κ (arrOf st) (f - 1):=by
  rw[<-bM];congr 1;lia
 rw[el]at X W;have a2:∀t,f<=t->t<f+l->κ.klt (KK κ (arrOf st) t) (KK κ (arrOf st) (f - 1)):=λt a b=>by
  have q:=X (t - f) (by lia)
  rwa [show f+(t - f)=t by lia]at q
 have S:∀t,f+l<=t->t<f+n->κ.kle (KK κ (arrOf st) (f - 1)) (KK κ (arrOf st) t):=λt a b=>by
  have q:=W (t - f) (by lia) (by lia)
  rwa [show f+(t - f)=t by lia]at q
 refine aP (λc=>wpS_pure (h _ O (λt u a b d=>?_) λt _=>rfl)) λc2=>?_
 ·have c:l=0:=beq_iff_eq.mp c;by_cases L:u<f
  ·exact G t u a b L
  by_cases o:t<f
  ·exact KeyOrd.kle_trans (G t (f - 1) a (by lia) (by lia)) (S u (by lia) d)
  ·exact F t u (by lia) b d
 have c2:l≠0:=λe=>c2 (beq_iff_eq.mpr e);have a4:((arrOf st).extract (U+k) f).size=m - k:=by rw[aii];lia
 have a3:((arrOf st).extract f (f+l)).size=l:=by rw[aii];lia
 have xl:((arrOf st).extract (U+k) f).toList=((arrOf st).toList.drop (U+k)).take (m - k):=by
  rw[agu,af9,show f - (U+k)=m - k by lia]
 have yl:((arrOf st).extract f (f+l)).toList=((arrOf st).toList.drop f).take l:=nD _ _ _;have sx:((arrOf st).extract (U+k) f).toList.Pairwise (kl κ):=by
  rw[xl];exact Cd (λt u a b d=>G t u (by lia) b (by lia)) (by lia)
 have sy:((arrOf st).extract f (f+l)).toList.Pairwise (kl κ):=by
  rw[yl];exact Cd (λt u a b d=>F t u a b (by lia)) (by lia)
 have x:∀z∈((arrOf st).extract (U+k) f).toList,∃t,U+k<=t/\t<f/\ky κ z=KK κ (arrOf st) t/\z∈(arrOf st).toList:=λz hz=>by
  rw[xl]at hz;obtain⟨d,hd,J,rfl⟩:=jF hz;exact(U+k+d,by lia,by lia,(bM J).symm,aco _)
 have p:∀z∈((arrOf st).extract f (f+l)).toList,∃t,f<=t/\t<f+l/\ky κ z=KK κ (arrOf st) t/\z∈(arrOf st).toList:=λz hz=>by
  rw[yl]at hz;obtain⟨d,hd,J,rfl⟩:=jF hz;exact(f+d,by lia,by lia,(bM J).symm,aco _)
 have kx:KeysOf κ ((arrOf st).extract (U+k) f):=λz hz=>N z (x z hz).choose_spec.2.2.2;have T:KeysOf κ ((arrOf st).extract f (f+l)):=λz hz=>N z (p z hz).choose_spec.2.2.2;have y0:ky κ (((arrOf st).extract f (f+l))[0]'(by omega))=KK κ (arrOf st) f:=by
  rw[ahY];exact(bM (by lia)).symm
 have K:ky κ (((arrOf st).extract (U+k) f)[((arrOf st).extract (U+k) f).size - 1]'(by omega))=KK κ (arrOf st) (f - 1):=by
  rw[ahY,<-bM];congr 1;lia
 have hf:∀z∈((arrOf st).extract (U+k) f).toList,kl κ (((arrOf st).extract f (f+l))[0]'(by omega)) z:=λz hz=>by
  obtain⟨t,o,M,e,_⟩:=x z hz;unfold kl;rw[y0,e];exact KeyOrd.kle_of_klt (a5 t o M)
 have hl:∀z∈((arrOf st).extract f (f+l)).toList,kl κ z (((arrOf st).extract (U+k) f)[((arrOf st).extract (U+k) f).size - 1]'(by omega)):=λz hz=>by
  obtain⟨t,o,M,e,_⟩:=p z hz;unfold kl;rw[K,e];exact KeyOrd.kle_of_klt (a2 t o M)
 have a0:∀(r:Array Keyed) (j:SortSt),cN (setPending st ((pd.setIfInBounds i (pq U (pq (m+n) R))).eraseIdxIfInBounds (i+1))) j->Fin (kl κ) (((arrOf st).extract (U+k) f).toList++((arrOf st).extract f (f+l)).toList) r.toList ->
   wpS (model prog w) A E s (do
    modify λv=>setArr v (wr (arrOf v) (U+k) r.toList)
    return (failedOf (<-get)).isNone) Q j:=by
  intro r j hg hF;have a7:r.toList.length=m - k+l:=by rw[hF.1.length_eq,aaf,aae,aae,a4,a3]
  have ea:arrOf j=arrOf st:=hg.arr;have y:U+k+r.toList.length<=(arrOf st).size:=by lia
  refine wpS_bind (wpS_modify (wpS_bind (wpS_get ?_)));have e3:failedOf (setArr j (wr (arrOf j) (U+k) r.toList))=none:=hg.failed.trans C.failed;rw[e3];refine wpS_pure (h _ (?_,hg.kind.trans C.kind,e3,hg.pend) ?_ ?_)
  ·show (wr (arrOf j) (U+k) r.toList).Perm a₀;rw[ea];refine Array.Perm.trans (agm.mpr ?_) C.perm;rw[Mr y,a7];have e4:(arrOf st).toList=(arrOf st).toList.take (U+k)++(((arrOf st).extract (U+k) f).toList++((arrOf st).extract f (f+l)).toList)++(arrOf st).toList.drop (U+k+(m - k+l)):=by
    rw[xl,yl,abm]
    conv=>lhs;rw[<-acA (U+k) (arrOf st).toList]
    congr 1
    conv=>lhs;rw[<-acA (m - k+l) ((arrOf st).toList.drop (U+k))]
    rw[aha,aiN,aha,show U+k+(m - k)=f by lia]
   conv=>rhs;rw[e4]
   exact((aiK _).append hF.1).append (aiK _)
  ·have a1:∀t,KK κ (wr (arrOf st) (U+k) r.toList) t=if ht:U+k<=t/\t<f+l then ky κ (r.toList[t - (U+k)]'(by omega))else KK κ (arrOf st) t:=λt=>by
    have g:=Dr y t;by_cases ht:U+k<=t/\t<f+l
    ·rw[dif_pos ht];rw[if_pos (by lia),aad (by lia)]at g;unfold KK ky;rw[g]
    ·rw[dif_neg ht];rw[if_neg (by lia)]at g;exact KK_congr g
   have H:∀z∈r.toList,∃t,U+k<=t/\t<f+l/\ky κ z=KK κ (arrOf st) t:=λz hz=>by
    rcases abn.mp (hF.1.mem_iff.mp hz)with hz|hz
    ·obtain⟨t,o,M,e,_⟩:=x z hz;exact(t,o,by lia,e)
    ·obtain⟨t,o,M,e,_⟩:=p z hz;exact(t,by lia,M,e)
   have B:∀t,U<=t->t<U+k -> ∀u,U+k<=u->u<f+n->κ.kle (KK κ (arrOf st) t) (KK κ (arrOf st) u):=λt a b u c d=>by
    by_cases L:u<f
    ·exact G t u a (by lia) L
    ·exact KeyOrd.kle_trans (I t a b) (F f u (aac _) (by lia) d)
   have D:∀t,U+k<=t->t<f+l -> ∀u,f+l<=u->u<f+n->κ.kle (KK κ (arrOf st) t) (KK κ (arrOf st) u):=λt a b u c d=>by
    by_cases o:t<f
    ·exact KeyOrd.kle_trans (G t (f - 1) (by lia) (by lia) (by lia)) (S u c d)
    ·exact F t u (by lia) (by lia) d
   show Sd κ (wr (arrOf j) (U+k) r.toList) U (f+n);rw[ea];intro t u a b d;rw[a1,a1];by_cases tr:U+k<=t/\t<f+l
   ·rw[dif_pos tr];by_cases P:U+k<=u/\u<f+l
    ·rw[dif_pos P];by_cases e:t=u
     ·subst e;exact KeyOrd.kle_refl _
     ·exact abR.mp hF.2 (t - (U+k)) (u - (U+k)) (by lia) (by lia) (by lia)
    ·rw[dif_neg P];obtain⟨v,v1,v2,e⟩:=H _ (abX (show t - (U+k)<r.toList.length by lia));rw[e];exact D v v1 v2 u (by lia) d
   ·rw[dif_neg tr];by_cases P:U+k<=u/\u<f+l
    ·rw[dif_pos P];obtain⟨v,v1,v2,e⟩:=H _ (abX (show u - (U+k)<r.toList.length by lia));rw[e];exact B t a (by lia) v v1 (by lia)
    ·rw[dif_neg P];by_cases o:t<U+k
     ·by_cases L:u<U+k
      ·exact G t u a b (by lia)
      ·exact B t a o u (by lia) d
     ·exact F t u (by lia) b d
  ·intro t ht;show (wr (arrOf j) (U+k) r.toList)[t]?=_;rw[ea,Dr y,if_neg (by lia)]
 by_cases V:m - k<=l
 ·rw[if_pos V];exact wpS_bind (Fy hO O.kind kx T sx sy (by lia) (by lia) hf hl a0)
 ·rw[if_neg V];exact wpS_bind (Fo hO O.kind kx T sx sy (by lia) (by lia) hf hl a0)
end
set_option autoImplicit false
def Lay:Nat->List (Nat×Nat×Nat)->Nat->Prop
 | s,[],e=>s=e
 | s,x::r,e=>s=x.1/\1<=x.2.1/\Lay (x.1+x.2.1) r e
theorem pO:∀{P R:List (Nat×Nat×Nat)} {s e:Nat},Lay s (P++R) e ↔ ∃m,Lay s P m/\Lay m R e
 | [],R,s,e=>(λh=>(s,rfl,h),λ⟨m,b,a⟩=>by cases b;exact a)
 | x::P,R,s,e=>by
  constructor
  ·rintro⟨b,a,f⟩;obtain⟨m,d,c⟩:=pO.mp f;exact(m,(b,a,d),c)
  ·rintro⟨m,⟨b,a,d⟩,c⟩;exact(b,a,pO.mpr (m,d,c))
theorem iR:∀{R:List (Nat×Nat×Nat)} {s e:Nat},Lay s R e->s+R.length<=e /\ ∀x∈R,s<=x.1/\x.1+x.2.1<=e
 | [],s,e,h=>(ahd h,λx a=>by cases a)
 | y::R,s,e,h=>by
  obtain⟨f,d,b⟩:=h;obtain⟨g,c⟩:=iR b;refine(by rw[aaY];lia,λx a=>?_);rcases aaH.mp a with rfl|a
  ·lia
  ·have:=c x a;lia
structure Runs(κ:KeyKind)(xs:Array Keyed)(pd:Array (Nat×Nat×Nat))(lo:Nat):Prop where
 lay:Lay 0 pd.toList lo
 sd:∀x∈pd.toList,Sd κ xs x.1 (x.1+x.2.1)
theorem lN{κ:KeyKind}{xs ys:Array Keyed}{lo :Nat}(h:Sd κ xs lo n)(e:∀k:Nat,lo<=k->k<n->ys[k]?=xs[k]?):Sd κ ys lo n:=λi j a b c=>by
 rw[KK_congr (e i a (by lia)),KK_congr (e j (by lia) c)];exact h i j a b c
theorem Runs.low{κ:KeyKind}{xs ys:Array Keyed}{a:Array (Nat×Nat×Nat)}{lo:Nat}(h:Runs κ xs a lo)(e:T8 lo xs ys):Runs κ ys a lo:=
 (h.lay,λx b=>lN (h.sd x b) λk _ c=>e k (by have:=(iR h.lay).2 x b;lia))
theorem Runs.push{κ:KeyKind}{xs:Array Keyed}{b:Array (Nat×Nat×Nat)}{lo n p:Nat}(h:Runs κ xs b lo)(d:1<=n)(c:Sd κ xs lo (lo+n)):Runs κ xs (b.push (pq lo (pq n p))) (lo+n):=by
 refine(by rw[af8];exact pO.mpr (lo,h.lay,rfl,d,rfl),λx a=>?_);rw[af8]at a;rcases abn.mp a with a|a
 ·exact h.sd x a
 ·rw[aaj.mp a];exact c
theorem Ae:∀{R b:List (Nat×Nat×Nat)} {s e:Nat},R.map (λx=>(pq x.1 x.2.1))=b.map (λx=>(pq x.1 x.2.1))->Lay s R e->Lay s b e
 | [],[],_,_,_,h=>h
 | [],_::_,_,_,h,_=>by cases h
 | _::_,[],_,_,h,_=>by cases h
 | x::R,y::b,s,e,h,l=>by
  rw[aaA,aaA]at h;injection h with j i
  injection j with g f
  obtain⟨d,c,a⟩:=l;rw[g]at d a;rw[f]at c a;exact(d,c,Ae i a)
theorem Runs.same{κ:KeyKind}{xs:Array Keyed}{a b:Array (Nat×Nat×Nat)}{lo:Nat}(h:Runs κ xs a lo)(e:a.toList.map (λx=>(pq x.1 x.2.1))=b.toList.map (λx=>(pq x.1 x.2.1))):Runs κ xs b lo:=by
 refine(Ae e h.lay,λx d=>?_);have f:(pq x.1 x.2.1)∈a.toList.map (λx=>(pq x.1 x.2.1)):=by
  rw[e];exact abl.mpr (x,d,rfl)
 obtain⟨y,c,j⟩:=abl.mp f;injection j with i g
 have q:=h.sd y c;rw[i,g]at q;exact q
theorem Qg{c:Prop}[Decidable c]{n:Nat}(h:¬n<=1):(if c then n - 2 - 1 else n - 2)+1<n:=by
 split <;> lia
theorem BX{a:Type}(l:List O)(i:Nat)(f:O->O)(g:O->a)(h:∀x,g (f x)=g x):(l.modify i f).map g=l.map g:=by
 apply agR;intro t;rw[aah,aah,List.getElem?_modify];cases l[t]? with
 | none=>rfl
 | some x =>
  by_cases e:i=t
  ·simp[e,h]
  ·simp[e]
section
variable{a₀:Array Keyed}{κ:KeyKind}{pd:Array (Nat×Nat×Nat)}
theorem jY{st:SortSt}{i lo:Nat}{Q:Bool->SortSt->Prop}(U:κ.OneLt)(W:KeysOf κ a₀)(V:TB a₀ pd st)(l:Runs κ (arrOf st) pd lo)(T:i+1<pd.size)(a0:lo<=a₀.size)
  (h:∀a D,TB a₀ D a->Runs κ (arrOf a) D lo->D.size+1=pd.size->(∀k:Nat,lo<=k->(arrOf a)[k]?=(arrOf st)[k]?)->Q true a):wpS (model prog w) A E s (mergeAt' i) Q st:=by
 obtain⟨⟨b,m,j⟩,O⟩:∃x,pd[i]?=some x:=(_,getElem?_pos pd i (by lia));obtain⟨⟨g,n,C⟩,N⟩:∃x,pd[i+1]?=some x:=(_,getElem?_pos pd (i+1) T);have f:pd.toList=pd.toList.take i++(pq b (pq m j))::(pq g (pq n C))::pd.toList.drop (i+2):=by
  have Y:pd.toList[i]?=some (pq b (pq m j)):=by rw[abT];exact O
  have X:pd.toList[i+1]?=some (pq g (pq n C)):=by rw[abT];exact N
  have z:=aab.mp Y;have y:=aab.mp X;obtain⟨z,I⟩:=z;obtain⟨y,H⟩:=y
  conv=>lhs;rw[<-acA i pd.toList]
  rw[abV z,I,abV y,H]
 have d:=l.lay;rw[f]at d;obtain⟨S,M,L,K,u,J,t⟩:=pO.mp d;dsimp only at L K u J t;have Z:=iR M;have B:=iR t;have r:(pq b (pq m j))∈pd.toList:=by rw[f];exact aav _ aa5
 have p:(pq g (pq n C))∈pd.toList:=by rw[f];exact aav _ (aaL _ aa5)
 have R:=l.sd _ r;have P:=l.sd _ p;dsimp only at R P;refine DG U W V O N u.symm K J (by have:=B.1;lia) (by rw[<-u];exact R) P λa G F e=>?_;have v:((pd.setIfInBounds i (pq b (pq (m+n) j))).eraseIdxIfInBounds (i+1)).toList=pd.toList.take i++(pq b (pq (m+n) j))::pd.toList.drop (i+2):=by
  have o:(pd.toList.take i).length=i:=by rw[aaI,aae];lia
  rw[Array.toList_eraseIdxIfInBounds,Array.toList_setIfInBounds]
  conv=>lhs;rw[f]
  rw[List.set_append_right _ _ (by lia),o,ag0,List.set_cons_zero,List.eraseIdx_append_of_length_le (by lia),o,af2];rfl
 refine h a _ G (?_,λx c=>?_) ?_ λk hk=>e k (.inr (by have:=B.1;lia))
 ·rw[v];refine pO.mpr (S,M,L,by show 1<=m+n;lia,?_);show Lay (b+(m+n)) _ lo;rw[show b+(m+n)=g+n by lia];exact t
 ·rw[v]at c;rcases abn.mp c with c|c
  ·have q:=l.sd x (by rw[f];exact afU _ c);exact lN q λk _ a1=>e k (.inl (by have:=Z.2 x c;lia))
  ·rcases aaH.mp c with rfl|c
   ·show Sd κ (arrOf a) b (b+(m+n));rw[show b+(m+n)=g+n by lia];exact F
   ·have q:=l.sd x (by rw[f];exact aav _ (aaL _ (aaL _ c)));exact lN q λk a2 _=>e k (.inr (by have:=B.2 x c;lia))
 ·have:=congrArg af7 v;rw[aae,aaf,aaI,aaY,abU,aae]at this;lia
theorem JK{xs:Array Keyed}{lo n:Nat}(h:Ui κ xs lo n):Sd κ xs lo (lo+n):=λi j a b c=>by
 have q:=h (i - lo) (j - lo) (by lia) (by lia)
 rwa [show lo+(i - lo)=i by lia,show lo+(j - lo)=j by lia]at q
theorem Ax{st:SortSt}{Q:Unit->SortSt->Prop}(K:κ.OneLt)(L:KeysOf κ a₀)(hB:TB a₀ #[] st)(h2:2<=a₀.size)
  (h:∀a,(arrOf a).Perm a₀->failedOf a=none->SortedToK κ (arrOf a) a₀.size->Q () a):wpS (model prog w) A E s sortRuns' Q st:=by
 rw[sortRuns'_eq];refine wpS_bind (wpS_get ?_);dsimp only;rw[hB.size];refine wpS_bind (wpS_mono (wpS_forRange (I:=λx c a=>∃b pd,c=(pq none b)/\TB a₀ pd a/\Runs κ (arrOf a) pd b/\x<=b/\b<=a₀.size) (Q:=λc a=>∃pd,c=(pq none a₀.size)/\TB a₀ pd a/\Runs κ (arrOf a) pd a₀.size) ?_ ?_ (0,#[],rfl,hB,(rfl,λx U=>by cases U),aac _,aaK _)) ?_)
 ·rintro x c O _ U ⟨b,pd,rfl,J,C,XM,F⟩;dsimp only;by_cases P:b >= a₀.size
  ·rw[if_pos P];have:b=a₀.size:=by lia
   subst this;exact wpS_pure (pd,rfl,J,C)
  rw[if_neg P];refine wpS_bind (Bt K L J (by lia) (by lia) λm u f a6 a3 a7 o=>?_);dsimp only;have v:=C.low a6;by_cases D:m<minRun' a₀.size a₀.size 0
  ·rw[if_pos D];generalize minRun' a₀.size a₀.size 0=mr at D ⊢;refine wpS_bind (wpS_lift (wpAny_rule (rfl,?_)));refine wpS_bind (wj K L f (by lia) (by lia) o λN d YG a5=>?_);rw[if_neg (by decide)];have B:=v.low YG;have l:=JK a5;obtain⟨n,hn,M,Xu⟩:∃n,min (a₀.size - b) mr=n/\1<=n/\b+n<=a₀.size:=(_,rfl,by lia,by lia);rw[hn]at l ⊢;refine wpS_bind (wpS_get ?_);rw[d.pend];cases VF:pd.back? with
   | none =>
    dsimp only;exact wpS_bind (wpS_modify (wpS_pure (b+n,pd.push (pq b (pq n 0)),rfl,(d.perm,d.kind,d.failed,by show (pendingOf N).push _=_;rw[d.pend]),B.push M l,by lia,by lia)))
   | some t =>
    obtain⟨s1,n1,p1⟩:=t;dsimp only;refine wpS_bind (wpS_mono (wpS_forRange (I:=λ_ c a=>c=(pq none (())) /\ ∃e,TB a₀ e a/\Runs κ (arrOf a) e b/\Sd κ (arrOf a) b (b+n)) (Q:=λc a=>c=(pq none (())) /\ ∃e,TB a₀ e a/\Runs κ (arrOf a) e b/\Sd κ (arrOf a) b (b+n)) ?_ ?_ (rfl,pd,d,B,l)) ?_)
    ·rintro y c r _ _ ⟨rfl,e,g,q,p⟩;refine wpS_bind (wpS_get ?_);rw[g.pend];by_cases z:e.size > 1
     ·rw[if_pos z,getElem?_pos e (e.size - 2) (by lia)];generalize e[e.size - 2]=T;obtain⟨a1,a2,G⟩:=T;dsimp only;refine aP (λ_=>wpS_pure (rfl,e,g,q,p)) λ_=>wpS_bind (jY K L g q (by lia) F λUG Z V9 Y _ X=>?_);rw[if_neg (by decide)];exact wpS_pure (rfl,Z,V9,Y,lN p λk V _=>X k V)
     ·rw[if_neg z];exact wpS_pure (rfl,e,g,q,p)
    ·rintro c r W;exact W
    ·rintro c r ⟨rfl,e,g,q,p⟩;dsimp only;refine wpS_bind (wpS_modify (wpS_bind (wpS_modify (wpS_pure (b+n,_,rfl,(g.perm,g.kind,g.failed,rfl),?_,by lia,by lia)))));show Runs κ (arrOf r) (((pendingOf r).modify ((pendingOf r).size - 1) _).push (pq b (pq n 0))) (b+n);rw[g.pend];refine Runs.push (q.same ?_) M p;rw[ah9];refine(BX _ _ _ _ ?_).symm;exact λ_=>rfl
  ·rw[if_neg D];have d:=f;have B:=v;have l:=JK o;have M:=a3;refine wpS_bind (wpS_get ?_);rw[d.pend];cases VF:pd.back? with
   | none =>
    dsimp only;exact wpS_bind (wpS_modify (wpS_pure (b+m,pd.push (pq b (pq m 0)),rfl,(d.perm,d.kind,d.failed,by show (pendingOf u).push _=_;rw[d.pend]),B.push M l,by lia,by lia)))
   | some t =>
    obtain⟨s1,n1,p1⟩:=t;dsimp only;refine wpS_bind (wpS_mono (wpS_forRange (I:=λ_ c a=>c=(pq none (())) /\ ∃e,TB a₀ e a/\Runs κ (arrOf a) e b/\Sd κ (arrOf a) b (b+m)) (Q:=λc a=>c=(pq none (())) /\ ∃e,TB a₀ e a/\Runs κ (arrOf a) e b/\Sd κ (arrOf a) b (b+m)) ?_ ?_ (rfl,pd,d,B,l)) ?_)
    ·rintro y c r _ _ ⟨rfl,e,g,q,p⟩;refine wpS_bind (wpS_get ?_);rw[g.pend];by_cases z:e.size > 1
     ·rw[if_pos z,getElem?_pos e (e.size - 2) (by lia)];generalize e[e.size - 2]=T;obtain⟨a1,a2,G⟩:=T;dsimp only;refine aP (λ_=>wpS_pure (rfl,e,g,q,p)) λ_=>wpS_bind (jY K L g q (by lia) F λUG Z V9 Y _ X=>?_);rw[if_neg (by decide)];exact wpS_pure (rfl,Z,V9,Y,lN p λk V _=>X k V)
     ·rw[if_neg z];exact wpS_pure (rfl,e,g,q,p)
    ·rintro c r W;exact W
    ·rintro c r ⟨rfl,e,g,q,p⟩;dsimp only;refine wpS_bind (wpS_modify (wpS_bind (wpS_modify (wpS_pure (b+m,_,rfl,(g.perm,g.kind,g.failed,rfl),?_,by lia,by lia)))));show Runs κ (arrOf r) (((pendingOf r).modify ((pendingOf r).size - 1) _).push (pq b (pq m 0))) (b+m);rw[g.pend];refine Runs.push (q.same ?_) M p;rw[ah9];refine(BX _ _ _ _ ?_).symm;exact λ_=>rfl
 ·rintro c O ⟨b,pd,rfl,J,C,XM,F⟩;have:b=a₀.size:=by lia
  subst this;exact(pd,rfl,J,C)
 ·rintro c O ⟨pd,rfl,J,C⟩;dsimp only;refine wpS_bind (wpS_mono (wpS_forRange (I:=λx c a=>c=(pq none (())) /\ ∃pd,TB a₀ pd a/\Runs κ (arrOf a) pd a₀.size/\pd.size+x<=a₀.size) (Q:=λc a=>c=(pq none (())) /\ ∃pd,TB a₀ pd a/\Runs κ (arrOf a) pd a₀.size/\pd.size<=1) ?_ ?_ (rfl,pd,J,C,?_)) ?_)
  ·rintro x c u _ U ⟨rfl,H,f,v,o⟩;refine wpS_bind (wpS_get ?_);rw[f.pend];refine aP (λz=>wpS_pure (rfl,H,f,v,z)) λz=>?_;refine wpS_bind (jY K L f v (Qg z) (aac _) λN a0 d B XJ _=>?_);rw[if_neg (by decide)];exact wpS_pure (rfl,a0,d,B,by lia)
  ·rintro c u ⟨rfl,H,f,v,o⟩;exact(rfl,H,f,v,by lia)
  ·have:=(iR C.lay).1;rw[aae]at this;lia
  ·rintro c u ⟨rfl,H,f,v,o⟩;refine wpS_pure (h u f.perm f.failed λi j a4 hj=>?_);have R:H.toList.length<=1:=by rw[aae];exact o
   have S:=v.lay;have hd:=v.sd
   match hpl:H.toList,R with
   | [],_ =>
    rw[hpl]at S;have:0=a₀.size:=S;lia
   | [y],_ =>
    rw[hpl]at S hd;obtain⟨y1,y2,y3⟩:=S;have y3:y.1+y.2.1=a₀.size:=y3;exact hd y aa5 i j (by lia) a4 (by lia)
end
set_option autoImplicit false
section
theorem yj{κ:PyProof.Rows.KeyKind}(G:κ.OneLt){l:Addr}{a:List Value}{n:Nat}{Q:PySem.Fin->Shared->Prop}(m:s.heap.get? l=some (seqObj "list" a.toArray n))(H:KeysOf κ (pairsOf a))(F:∀u v r,a=u::v::r->keyKind' (u::v::r).toArray=pure oneType')(hz:a.length<=100000)
  (h:∀z:SortSt,(arrOf z).Perm (pairsOf a)->SortedToK κ (arrOf z) (pairsOf a).size->Q (.done (.ret .none)) { s with heap:=sortedHeap s.heap l a ((arrOf z).map (·.2)) }):wpAny (model prog w) A (Builtin.«list.sort» ([.ref l],[])) Q E s:=by
 have o:=Heap.lt_size m;have d:a.length<=sizeLine:=by rw[sizeLine_eq];lia
 obtain⟨e,x⟩:∃e,(s.heap.update l (Obj.mapSeq λ_=>#[])).get? l=some (seqObj "list" #[] e):=(_,get?_update_seq m (λ_=>#[]))
 have b:(((s.heap.update l (Obj.mapSeq λ_=>#[])).push (seqObj "tuple" a.toArray 0)).push (seqObj "list" #[] 0)).get? l=some (seqObj "list" #[] e):=by
  have t:l<(s.heap.update l (Obj.mapSeq λ_=>#[])).objs.size:=by rw[Heap.size_update];exact o
  rw[Heap.get?_push_ne _ _ _ (by rw[size_push'];exact aaq (agy t)),Heap.get?_push_ne _ _ _ (aaq t)];exact x
 rw[list_sort_plain];refine wpAny_bind (listItems_at m rfl (wpAny_bind (listUpdate_at m rfl ?_ (by show a.toArray.size<=sizeLine;rw[aax];exact d) (by show 0<=_;exact aaK _))));refine wpAny_bind (seqEpoch_at x rfl (wpAny_bind (wpAny_newTuple ?_ (by simpa using d))));refine wpAny_bind (wpAny_newList (wpAny_holding ?_))
 show wpAny (model prog w) A _ Q E { s with heap:=((s.heap.update l (Obj.mapSeq λ_=>#[])).push (seqObj "tuple" a.toArray 0)).push (seqObj "list" #[] 0) }
 dsimp only;have y:a.toArray.size=a.length:=by simp
 have g:∀z:SortSt,(arrOf z).Perm (pairsOf a)->((arrOf z).map (·.2)).size<=sizeLine+1:=λz k=>by
  rw[Array.size_map,k.size_eq,pairsOf_size];lia
 by_cases c:a.toArray.size<2
 ·rw[if_pos c,if_pos c];refine wpAny_bind (wpAny_pure ?_);rw[StateT.run_pure];refine wpAny_bind (wpAny_pure (wpAny_bind (seqEpoch_at b rfl (wpAny_bind (listUpdate_at b rfl ?_ (aaK _) (g (SortSt.mk' general' (a.toArray.zip a.toArray) #[] 7 none) (ahZ _)))))));simp only[bne_self_eq_false,acr,if_false];refine wpAny_pure (h (SortSt.mk' general' (a.toArray.zip a.toArray) #[] 7 none) (ahZ _) λi j I C=>?_);rw[pairsOf_size]at C;have:i=j:=by lia
  subst this;exact KeyOrd.kle_refl _
 ·rw[if_neg c,if_neg c];obtain⟨u,v,r,rfl⟩:∃u v r,a=u::v::r:=by
   match a,y,c with
   | [],_,z=>exact absurd (by decide) z
   | [_],_,z=>exact absurd (by show 1<2;decide) z
   | u::v::r,_,_=>exact(u,v,r,rfl)
  rw[F _ _ _ rfl];refine wpAny_bind (wpAny_pure (wpAny_bind (wpAny_mono (Ax (κ:=κ) G (a₀:=pairsOf (u::v::r)) (st:=SortSt.mk' oneType' ((u::v::r).toArray.zip (u::v::r).toArray) #[] 7 none)
   (Q:=λ_ z=>(arrOf z).Perm (pairsOf (u::v::r))/\failedOf z=none/\SortedToK κ (arrOf z) (pairsOf (u::v::r)).size) H (ahZ _,rfl,rfl,rfl) (by rw[pairsOf_size,aaY,aaY];lia) λz p f q=>(p,f,q)) ?_ λ_ _ q=>q)))
  rintro⟨⟨⟩,z⟩ J ⟨rfl,k,D,B⟩;dsimp only;refine wpAny_bind (seqEpoch_at b rfl (wpAny_bind (listUpdate_at b rfl ?_ (aaK _) (g z k))));rw[D];simp only[bne_self_eq_false,acr,if_false];exact wpAny_pure (h z k B)
end
@[reducible] def zp:PyProof.Rows.KeyKind where
 α:=Int
 blt a b:=decide (a<b)
 irrefl a:=decide_eq_false (Int.lt_irrefl a)
 trans a b c h1 h2:=decide_eq_true (Int.lt_trans (of_decide_eq_true h1) (of_decide_eq_true h2))
 negTrans a b c h:=by
  have h:=of_decide_eq_true h;by_cases q:a<b
  ·exact .inl (decide_eq_true q)
  ·exact .inr (decide_eq_true (by lia))
 total a b h1 h2:=by
  have h1:=of_decide_eq_false h1;have h2:=of_decide_eq_false h2;lia
 keyOf v:=match v with | .int n _=>some n|_=>none
 dflt:=0
theorem Hq:zp.OneLt:=by
 intro e w A E s x y a b Q d c h;cases x <;> simp only[zp,reduceCtorEq,aip]at d;cases y <;> simp only[zp,reduceCtorEq,aip]at c;cases d;cases c;exact oneLt_int h
theorem J4(xs:Array Keyed)(i:Nat):KK zp xs i=PyProof.Rows.K xs i:=by
 unfold KK PyProof.Rows.K;cases xs[i]? with
 | none=>rfl
 | some p =>
  obtain⟨x,q⟩:=p;cases x <;> rfl
section
theorem Hf{l:Addr}{n:Nat}{Q:PySem.Fin->Shared->Prop}(x:s.heap.get? l=some (seqObj "list" r.toArray n))(f:IntsAre r d)(hz:r.length<=100000)
  (h:∀(out:Array Value) (b:List Int),IntsAre out.toList b->b.Perm d->b.Pairwise (· <= ·)->Q (.done (.ret .none)) { s with heap:=sortedHeap s.heap l r out }):wpAny (model prog w) A (Builtin.«list.sort» ([.ref l],[])) Q E s:=by
 refine yj Hq x (λp c=>?_) (λu v a e=>?_) hz λz c o=>?_
 ·obtain⟨m,t,e⟩:=f.intKeys p c;exact(m,by rw[e])
 ·subst e;exact keyKind_ints f
 ·have g:SortedTo (arrOf z) (pairsOf r).size:=λi j k y=>by
   have q:=o i j k y;rw[J4,J4]at q;have q:=of_decide_eq_false q;lia
  obtain⟨b,D,C,B⟩:=sorted_out f c g;exact h _ b D C B
end
open PySem.Spec
set_option maxRecDepth 100000
section
theorem Ck{Q:Value->Shared->Prop}(F:A.handled=none)(K:jo (cR w) (intKind prog w) s.heap S d)
  (h:∀(D:Addr) (h':Heap) a tk (vs:List Value) (g:List Int) (e:Nat),s.heap.objs.size<=D->(∀b o,s.heap.get? b=some o->h'.get? b=some o)->h'.get? D=some (seqObj "list" vs.toArray e)->IntsAre vs g->afv g d->g.Pairwise (· <= ·)->g.length<=4096->Q (.ref D) { s with heap:=h',drawn:=a,toks:=tk }):
  wpAny (model prog w) A (call (.builtin "sorted") [.ref S]) Q E s:=by
 obtain⟨o,T,U,t,R,C,r,hd,I,G,J,L⟩:=K;have O:scanBound=4096:=rfl;refine Calls.call_function_entry kind_sorted plain_sorted entry_sorted (args_sorted1 _) ?_;unfold Builtin.«sorted»
 refine wpAny_bind (m:=checkCount "sorted" 1 1 _) (wpAny_pure ?_)
 refine wpAny_bind (sI (by simp[F]) (C,hd,G) r.1 I J λf l a tk P B v p u=>?_);obtain⟨g,x,q⟩:=Ht L B v;have k:f.toList.length<=4096:=by rw[aae,v.1];lia
 refine wpAny_bind (wpAny_newList ?_ (by rw[sizeLine_eq];lia))
 have c:(l.push (seqObj "list" f.toList.toArray 0)).get? l.objs.size=some (seqObj "list" f.toList.toArray 0):=Heap.get?_push_size _ rfl
 refine wpAny_bind (wpAny_holding (wpAny_call_entry slot_list_sort (_,c,rfl) entry_list_sort (Hf c x (by lia) λi n N z M=>(_,rfl,?_)) (args_list_sort _)));refine wpAny_pure (_,rfl,?_);obtain⟨e,H⟩:=sortedHeap_at (out:=i) c;refine h l.objs.size _ a _ i.toList n e (adi p) (λb o y=>?_) (by simpa using H) N (z.trans q) M (by rw[z.length_eq,<-x.length];exact k);have j:=Heap.lt_size (u _ _ y);rw[sortedHeap_old (aaq j) (by rw[Heap.size_push];exact agy j)];exact Heap.get?_push_of_some _ (u _ _ y)
end
end Tw
namespace L2
open PySem.Spec PyProof.Rows Tw
section
theorem yG(v:X.calm=true):gn X (.builtin "sorted") (λxs H Q=>∃(p:Addr) (a:List Int),xs=[.ref p]/\H p=some (Pu X.prog X.w p a) /\
  ∀l b,H l=none->afv b a->b.Pairwise (· <= ·)->Q (.ref l) (upd H l (.lst (b.map V.int)))):=by
 intro B s A H xs C Q I r h;obtain⟨p,a,rfl,n,q⟩:=h;obtain⟨u,rfl,j⟩:=vals1 r;cases j;have x:jo (cR X.w) (intKind X.prog X.w) s.heap p a:=(I.hok p _ n).1;refine Ck (I.ok.hd v) x λD z d i g k e f o t y c m E=>?_;exact(.ref D,_,(I.laid (t':=i) o f (show bB X.prog X.w _ z D (.lst (k.map V.int))from (by rw[aaa,sizeLine_eq];lia,g,e,p7 y,t))).drawnTo d,rfl,q _ _ (I.hok.fresh f) c m)
end
open PySem.W
section
inductive Ms(K:PySem.W.Frag)(x:V)(vs:List V)(H:Hp)(Q:VK):Prop
 | mk (l:Addr) (xs:List V) (y:V) (ds:List PyData) (d:PyData) (j:Nat) (_:x=.ref l) (_:vs=[y]) (_:H l=some (.lst xs)) (_:lg K H xs ds) (_:vM K H y d) (_:PyData.canLayAll0 ds=true) (_:d.canLay0=true) (_:d.depth<=8) (_:(∃e,ds[j]?=some e/\PyData.eqv e d=true)) (_:(∀i e,i<j->ds[i]?=some e->PyData.eqv e d=false)) (_:Q (.int (j:Int)) H)
theorem Jc(Y:X.A.units+64<cLine):Yo X "list.index" (Ms X.K):=by
 intro T s S H x V v W Q I C D h;obtain⟨l,U,y,b,d,j,rfl,rfl,L,hd,J,w,O,N,⟨e0,p,m⟩,M,q⟩:=h;cases C;obtain⟨u,rfl,E⟩:=D.one;obtain⟨z,a,n,r,hl,e⟩:=I.lstM L;obtain⟨P,o⟩:=hd.reads I r;obtain⟨bs,G⟩:=J.reads I E;have t:=SeqAt.readsAll_map b a P w o;have c:∀i (f:i<a.length),b[i]?=some (SeqAt.readOf s.heap a[i]):=λi f=>by
  rw[<-t,aah,aad f];rfl
 have B:a.length=b.length:=by rw[<-t,aaa]
 have hj:=(aab.mp p).1;rw[sizeLine_eq]at z;have Z:min (PyData.depthAll b) d.depth<=8:=adh (aiv _ _) N;refine call_meets F.slot_list_index (_,e,rfl) F.entry_list_index (F.args_list_index_2 _ _)
  (SeqAt.list_indexAt l a.toArray n none #[] u (λy=>PyData.eqv (SeqAt.readOf s.heap y) d) j (by rw[aax];lia) (by lia) ?_ ?_) (e,SeqAt.items_eqAt (xs:=b) (by simpa using o) G w O (by lia),?_)
 ·have:=c j (by lia);rw[p]at this;have:=aap this;have R:j<a.toArray.size:=by rw[aax];lia
  show PyData.eqv (SeqAt.readOf s.heap a.toArray[j]) d=true;rw[ahm,<-this];exact m
 ·intro i f g;have k:i<a.length:=by simpa using f
  show PyData.eqv (SeqAt.readOf s.heap a.toArray[i]) d=false;rw[ahm];exact M i _ g (c i k)
 exact(.int (j:Int),H,I.tok _,(_,rfl),q)
end
section
variable{P:Program}{k:Nat}{T:o7}{slots:List Nat}{Uc:Addr->List Addr}{pos p1 p2:Pos}
theorem T7.makerL0(F:T7 K x qual st f fd)(S:aC N ps (δ st))(M:CK N qual (δ st) T slots Uc)(bm:BMain mg base)(b:fd.code=.ref c)(C:CodeHd base c Pt)(d:∀a H Q E,sp a H Q E->a.length=ps.length)
  (n:μ st=[.Return (some (.Lambda T.params T.body T.scope pos)) p2])
  (h:∀(a:List V) (H:Hp) (Q:VK) (E:XK),sp a H Q E->JR H Pt pos T slots (start N a) Q):aV P w K mg base S6 (k+1) f fd ps sp:=by
 obtain⟨u,t,kV,p,r,z,j,y,o,rfl,m,g⟩:=F.ex;obtain rfl:j=.ref c:=b;refine Ea m g S d λA l s H a Q E q v e I=>?_;rw[n];exact yp M bm C I (h a H Q E e)
end
def lF(x:Str)(lo a:Option Int):Str:=⟨((x.cps.toList.drop (HT.Tu x.length 0 lo)).take (HT.Tu x.length x.length a - HT.Tu x.length 0 lo)).toArray⟩
theorem pB(n d:Nat)(lo:Option Int):HT.Tu n d lo=lo.elim d (clipAt n):=by
 cases lo with
 | none=>rfl
 | some v =>
  show (if v<0 then (v+(n:Int)).toNat else min v.toNat n)=clipAt n v;unfold clipAt;split <;> lia
theorem part_of{v:Value}{lo:Option Int}(h:IsPart v lo):∃l:Option (Int×Tok),v=partValue l/\l.map (·.1)=lo:=by
 cases h with
 | none=>exact(none,rfl,rfl)
 | int i t=>exact(some (pq i t),rfl,rfl)
theorem rW(z:Str)(l u:Option (Int×Tok)):((slicePicked z l u none).filterMap (z.cps[·]?)).toArray=(lF z (l.map (·.1)) (u.map (·.1))).cps:=by
 unfold slicePicked lF;have e:Builtin.Str.strSliceIndices (l.map (·.1)) (u.map (·.1)) 1 z.length=sliceRange (HT.Tu z.length 0 (l.map (·.1)):Nat) (HT.Tu z.length z.length (u.map (·.1)):Nat) 1:=by
  unfold Builtin.Str.strSliceIndices;rw[pB,pB];cases l <;> cases u <;> simp[clipAt_cast]
 show (List.filterMap (z.cps[·]?) (Builtin.Str.strSliceIndices (l.map (·.1)) (u.map (·.1)) 1 z.length)).toArray=_;rw[e,sliceRange_one,pick_run]
theorem Jx{l u:Option (Int×Tok)}(h:(slicePicked x l u none).length=x.length):lF x (l.map (·.1)) (u.map (·.1))=x:=by
 have g:=rW x l u;have d:slicePicked x l u none=sliceRange (HT.Tu x.length 0 (l.map (·.1)):Nat) (HT.Tu x.length x.length (u.map (·.1)):Nat) 1:=by
  unfold slicePicked;show Builtin.Str.strSliceIndices (l.map (·.1)) (u.map (·.1)) 1 x.length=_;unfold Builtin.Str.strSliceIndices;rw[pB,pB];cases l <;> cases u <;> simp[clipAt_cast]
 rw[d,sliceRange_one,aaa,afT]at h;have f:HT.Tu x.length x.length (u.map (·.1))<=x.length:=HT.QK _ _ (aac _) _;unfold lF;have b:x.length=x.cps.size:=rfl;rcases acz x.length with c|c
 ·have:x.cps=#[]:=Array.eq_empty_of_size_eq_zero (b ▸ c);cases x with
  | mk a =>
   have:a=#[]:=this;subst this;simp
 ·have e:HT.Tu x.length 0 (l.map (·.1))=0:=by lia
  rw[e,agU,agA,show HT.Tu x.length x.length (u.map (·.1))=x.length by lia,aai (by rw[aae];exact ahd b.symm)]
theorem gr(z:Str)(lo a:Option Int):(lF z lo a).length<=z.length:=by
 unfold lF;show ((z.cps.toList.drop _).take _).toArray.size<=z.cps.size;rw[aax,aaI,abU,aae];lia
inductive Sw(x:V)(lo:Option Int)(hi:Option Int)(H:Hp)(Q:VK):Prop
 | mk (z:_) (_:x=.str z) (_:z.length<=sizeLine) (_:Q (.str (lF z lo hi)) H)
theorem kO{X:Cx}:Xo X Sw:=by
 intro k s j H x v n m p r o Q I b g d c h;obtain⟨z,rfl,f,q⟩:=h;obtain⟨t,rfl⟩:=b
 exists "str",_,F.slot_str_getitem.lookup,typeIs_str _ _ _
 obtain⟨l,rfl,rfl⟩:=part_of d;obtain⟨u,rfl,rfl⟩:=part_of c;refine wpAny_getItem_str_slice (l:=l) (u:=u) (st:=none) g rfl ?_;unfold sliceMade;split
 ·rename_i a;have i:(slicePicked z l u none).length=z.length:=by
   simp at a;exact a
  rw[Jx i]at q;exact(.str z,H,I,(t,rfl),q)
 ·have e:(⟨((slicePicked z l u none).filterMap (z.cps[·]?)).toArray⟩:Str)=lF z (l.map (·.1)) (u.map (·.1)):=by rw[rW]
  rw[e];exact(adh (gr _ _ _) f,(.str _,H,I.tok _,(_,rfl),q))
def Ik(x:Str):It:=
 (λi _=>i<x.cps.size,λi H v a=>a=H /\ ∃c,x.cps[i]?=some c/\v=.str ⟨#[c]⟩,λi _=>x.cps.size<=i)
theorem Ig{P:Program}{w:World}(g:Addr)(x:Str)(t:Tok):Turn P w K e (Ik x) [g] g (λi h=>h.IsStrIter g "str_ascii_iterator" x t i) where
 mem:=by simp
 obj:=λi h f b l=>by
  have a:b=g:=by simpa using l
  subst a;obtain⟨o,a,c,d⟩:=f;exact(o,a,λv z=>by rw[d]at z;cases z)
 keep:=λi h p f k=>let ⟨o,ho,r⟩:=f;(o,k g (by simp) o ho,r)
 item:=by
  intro X u q y L i J s G H E I n f j;subst u q y;have j:i<x.cps.size:=j;obtain⟨F,D,N,C,B,A⟩:=n g (by simp);refine wpAny_pyNext_ascii_item f (c:=x.cps[i]) (by simp[j]) λp m M=>?_;have Q:Inv X J G H { s with heap:=p,toks:=s.toks+1 }:=I.turned (t':=s.toks+1) (λb o l a=>(M.2 b l).trans a) F D C B A;obtain⟨o,a,c,d⟩:=id m;exact(_,rfl,vN (s:={ s with heap:=p,toks:=s.toks+1 }) a c d (by decide) (.str ⟨#[x.cps[i]]⟩,H,Q,(_,rfl),(rfl,_,by simp[j],rfl),m,λb l=>(n b l).1))
 done:=by
  intro X u q y L i J s G H E I n f j;subst u q y;have j:x.cps.size<=i:=j;obtain⟨F,D,N,C,B,A⟩:=n g (by simp);exact wpAny_pyNext_ascii_end (I.ok.hd L) f (by simp;lia) λp O=>(rfl,I.turned (t':=s.toks) (λb o l a=>O b o l a) F D C B A)
 self:=λ_ _ _ _ _ f h=>wpAny_pyIter_striter_ascii f h
theorem Im{P:Program}{w:World}(g:Addr)(x:Str)(t:Tok):Turn P w K e (Ik x) [g] g (λi h=>h.IsStrIter g "str_iterator" x t i) where
 mem:=by simp
 obj:=λi h f b l=>by
  have a:b=g:=by simpa using l
  subst a;obtain⟨o,a,c,d⟩:=f;exact(o,a,λv z=>by rw[d]at z;cases z)
 keep:=λi h p f k=>let ⟨o,ho,r⟩:=f;(o,k g (by simp) o ho,r)
 item:=by
  intro X u q y L i J s G H E I n f j;subst u q y;have j:i<x.cps.size:=j;obtain⟨F,D,N,C,B,A⟩:=n g (by simp);refine wpAny_pyNext_wide_item f (c:=x.cps[i]) (by simp[j]) λp m M=>?_;have Q:Inv X J G H { s with heap:=p,toks:=s.toks+1 }:=I.turned (t':=s.toks+1) (λb o l a=>(M.2 b l).trans a) F D C B A;obtain⟨o,a,c,d⟩:=id m;exact(_,rfl,vN (s:={ s with heap:=p,toks:=s.toks+1 }) a c d (by decide) (.str ⟨#[x.cps[i]]⟩,H,Q,(_,rfl),(rfl,_,by simp[j],rfl),m,λb l=>(n b l).1))
 done:=by
  intro X u q y L i J s G H E I n f j;subst u q y;have j:x.cps.size<=i:=j;obtain⟨F,D,N,C,B,A⟩:=n g (by simp);exact wpAny_pyNext_wide_end (I.ok.hd L) f (by simp;lia) λp O=>(rfl,I.turned (t':=s.toks) (λb o l a=>O b o l a) F D C B A)
 self:=λ_ _ _ _ _ f h=>wpAny_pyIter_striter_wide f h
section
inductive PQ(R:It->Hp->Prop)(v:V)(H1:Hp):Prop
 | mk (x:_) (_:v=.str x) (_:R (Ik x) H1)
def SX(b:TE):TI:=λ a H R=>b a H (PQ R)
theorem K6{l:Expr}(n:PE X l ta):PI X tg l (SX ta):=by
 intro f s j H R I h;refine S5 (n f s j H _ I h) λv a ⟨y,d,c,k,m⟩=>?_;obtain⟨x,e,q⟩:=m;subst e;obtain⟨t,rfl⟩:=k;have i:∀b∈[a.heap.objs.size],gK X f d b:=λb p=>by
  have e:b=a.heap.objs.size:=by simpa using p
  subst e;exact c.fpOk (aac _) (c.hok.fresh (aac _))
 cases g:x.cps.all (· < 128)
 ·refine wpAny_pyIter_wide g ?_;exact(a.heap.objs.size,[a.heap.objs.size],_,_,d,rfl,c.kept (t':=a.toks) λb o e=>Heap.get?_push_of_some _ e,Im _ x t,(_,Heap.get?_push_size _ rfl,rfl,rfl),i,q)
 ·refine wpAny_pyIter_ascii g ?_;exact(a.heap.objs.size,[a.heap.objs.size],_,_,d,rfl,c.kept (t':=a.toks) λb o e=>Heap.get?_push_of_some _ e,Ig _ x t,(_,Heap.get?_push_size _ rfl,rfl,rfl),i,q)
end
theorem Gz{x:Str}{g:TG}{j:TS}{D:Ends}{σ:St}(a:Nat->St->Hp->Prop)(q:a 0 σ H)
  (n:∀i c σ H,x.cps[i]?=some c->a i σ H->g (.str ⟨#[c]⟩) σ H λ b h=>j { D with nx:=a (i+1),ct:=a (i+1),bk:=D.nx } b h)(hd:∀σ H,a x.cps.size σ H->D.nx σ H):
  ∃W:Nat->Nat->St->Hp->Prop,(∃m,W 0 m σ H) /\ ∀i m σ H,W i m σ H ->
   ((Ik x).stop i H/\D.nx σ H)\/((Ik x).go i H /\ ∃N:St->Hp->Prop,(∀d H',N d H' -> ∃k,k<m/\W (i+1) k d H') /\ ∀v H',(Ik x).Uv i H v H'->g v σ H' λ b h=>j { D with nx:=N,ct:=N,bk:=D.nx } b h):=by
 exists λi m σ H=>m=x.cps.size - i/\i<=x.cps.size/\a i σ H,(x.cps.size,by simp,aaK _,q);rintro i m σ H ⟨rfl,r,p⟩;by_cases f:i<x.cps.size
 ·refine .inr (f,a (i+1),λ d H' l=>(x.cps.size - (i+1),by lia,rfl,f,l),λv H' y=>?_);obtain⟨rfl,c,o,rfl⟩:=y;exact n i c σ _ o p
 ·have e:i=x.cps.size:=by lia
  subst e;exact .inl (aac _,hd σ H p)
end L2
namespace Tw
open PySem.Spec PyProof.Rows
set_option maxRecDepth 100000
def VG(c:List Str):Prop:=c.Pairwise λa b=>¬b.cps.toList<a.cps.toList
theorem tR(g:StrsAre r N){xs:Array Keyed}(l:xs.Perm (pairsOf r))(w:SortedToK PyProof.Rows.strKind xs (pairsOf r).size):
  ∃d,StrsAre (xs.map (·.2)).toList d/\d.Perm N/\VG d:=by
 have m:xs.toList.Perm (r.zip r):=by rw[<-pairsOf_toList];exact agm.mp l
 have a:∀p,p∈xs.toList->p.1=p.2/\p.1∈r:=λp b=>mem_zip_self (m.mem_iff.mp b);exists xs.toList.map (λp=>strOf p.1),?_,?_
 ·have e:(xs.map (·.2)).toList=xs.toList.map (·.1):=by
   rw[Array.toList_map];exact agC λp b=>(a p b).1.symm
  rw[e];have c:=strsAre_map (xs.toList.map (·.1)) (by
   intro v s;obtain⟨p,b,rfl⟩:=abl.mp s;exact g.all _ (a p b).2)
  rwa [af0]at c
 ·have c:=m.map (λp=>strOf p.1);have B:(r.zip r).map (λp=>strOf p.1)=N:=by
   have:(r.zip r).map (λp=>strOf p.1)=((r.zip r).map Prod.fst).map strOf:=by
    rw[af0];rfl
   rw[this,List.map_fst_zip (aac _),g.strs]
  rwa [B]at c
 ·unfold VG;rw[abR];intro i j A z h;have k:i<xs.size:=by simpa using A
  have f:j<xs.size:=by simpa using z
  have c:=w i j (adi h) (by rw[<-l.size_eq];exact f);obtain⟨x,t,o⟩:=g.all _ (a xs[i] (by simp)).2;obtain⟨y,u,n⟩:=g.all _ (a xs[j] (by simp)).2;rw[KK_str k (x:=x) (t:=t) (q:=xs[i].2) (Prod.ext o rfl),KK_str f (x:=y) (t:=u) (q:=xs[j].2) (Prod.ext n rfl)]at c;change decide (y.cps.toList<x.cps.toList)=false at c;simp only[List.getElem_map,acp];rw[show strOf xs[i].1=x by rw[o];rfl,show strOf xs[j].1=y by rw[n];rfl];exact of_decide_eq_false c
section
theorem yc{l:Addr}{n:Nat}{Q:PySem.Fin->Shared->Prop}(g:s.heap.get? l=some (seqObj "list" r.toArray n))(c:StrsAre r N)(hz:r.length<=100000)
  (h:∀(out:Array Value) (b:List Str),StrsAre out.toList b->b.Perm N->VG b->Q (.done (.ret .none)) { s with heap:=sortedHeap s.heap l r out }):wpAny (model prog w) A (Builtin.«list.sort» ([.ref l],[])) Q E s:=by
 refine yj strKind_oneLt g c.keysOf (λu v a e=>keyKind_strs (by rw[<-e];exact c)) hz λz f d=>?_;obtain⟨b,k,j,i⟩:=tR c f d;exact h _ b k j i
theorem vg{l:Addr}{Q:Value->Shared->Prop}(d:s.heap.IsList l r.toArray)(e:StrsAre r N)(hz:r.length<=100000)
  (h:∀(out:Array Value) (a:List Str),StrsAre out.toList a->a.Perm N->VG a->Q (.ref (s.heap.objs.size+1)) { s with heap:=sortedAll s.heap r out }):
  wpAny (model prog w) A (call (.builtin "sorted") [.ref l]) Q E s:=by
 have c:r.length<=sizeLine:=by rw[sizeLine_eq];lia
 refine Calls.call_function_entry kind_sorted plain_sorted entry_sorted (args_sorted1 _) ?_;unfold Builtin.«sorted»
 refine wpAny_bind (m:=checkCount "sorted" 1 1 _) (wpAny_pure (wpAny_bind (collect_list d ?_ c)))
 refine wpAny_bind (wpAny_newList ?_ c)
 have z:((s.heap.push (seqObj "list" #[] 0)).update s.heap.objs.size (Obj.mapSeq (· ++ r.toArray))).objs.size=s.heap.objs.size+1:=by rw[Heap.size_update,size_push']
 have g:(((s.heap.push (seqObj "list" #[] 0)).update s.heap.objs.size (Obj.mapSeq (· ++ r.toArray))).push (seqObj "list" r.toArray 0)).get? (s.heap.objs.size+1)=some (seqObj "list" r.toArray 0):=by
  rw[<-z];exact Heap.get?_push_size _ rfl
 show wpAny _ _ _ _ _ { s with heap:=((s.heap.push (seqObj "list" #[] 0)).update s.heap.objs.size (Obj.mapSeq (· ++ r.toArray))).push (seqObj "list" r.toArray 0) }
 rw[z];exact wpAny_bind (wpAny_holding (wpAny_call_entry slot_list_sort (_,g,rfl) entry_list_sort (yc g e hz λout b j i f=>(_,rfl,wpAny_pure (_,rfl,h out b j i f))) (args_list_sort _)))
theorem HQ{d:Array (Int×Value)}{o:List (Str×(Int×Value))}(x:lM (PySem.strKind prog w) d.toList N o){ps:List (Int×Value)}(b:afv ps d.toList)(f:ItemsOf (uy ps) I d.size):∃h,StrsAre I.toList h/\afv h N:=by
 obtain⟨n,a⟩:=x.perm b;have k:ps.length=d.size:=by rw[b.length_eq,aae]
 have j:I.toList=ps.map (·.2):=by
  apply agR;intro i;rw[aah];cases l:I.toList[i]? with
  | none =>
   have:I.toList.length<=i:=ags.mp l;rw[aae,f.1,<-k]at this;rw[agq this];rfl
  | some v =>
   obtain⟨e,g,m⟩:=f.2 i v (by rw[<-abT];exact l);rw[g,m];rfl
 refine(n.map (·.1),?_,a.fst);rw[j,<-a.snd];have c:=a.is
 clear a j k f b
 induction n with
 | nil=>exact .nil
 | cons q r u =>
  obtain⟨g,m,y⟩:=c q aa5;obtain⟨t,e⟩:=Value.isStrOf_shape (show Value.isStrOf q.1 q.2.2=true from g);rw[aaA,aaA,aaA,e];exact .cons q.1 t (u λp b=>c p (aaL _ b))
theorem wR{Q:Value->Shared->Prop}(F:A.handled=none)(K:jo (cR w) (PySem.strKind prog w) s.heap S N)
  (h:∀(D:Addr) (h':Heap) d tk (vs:List Value) (f:List Str) (e:Nat),s.heap.objs.size<=D->(∀b o,s.heap.get? b=some o->h'.get? b=some o)->h'.get? D=some (seqObj "list" vs.toArray e)->StrsAre vs f->afv f N->VG f->f.length<=4096->Q (.ref D) { s with heap:=h',drawn:=d,toks:=tk }):
  wpAny (model prog w) A (call (.builtin "sorted") [.ref S]) Q E s:=by
 obtain⟨o,U,V,t,T,C,r,hd,I,G,J,L⟩:=K;have P:scanBound=4096:=rfl;refine Calls.call_function_entry kind_sorted plain_sorted entry_sorted (args_sorted1 _) ?_;unfold Builtin.«sorted»
 refine wpAny_bind (m:=checkCount "sorted" 1 1 _) (wpAny_pure ?_)
 refine wpAny_bind (sI (by simp[F]) (C,hd,G) r.1 I J λa k d tk R B v n u=>?_);obtain⟨f,x,p⟩:=HQ L B v;have j:a.toList.length<=4096:=by rw[aae,v.1];lia
 have q:f.length=a.toList.length:=by rw[<-x.strs,aaa]
 refine wpAny_bind (wpAny_newList ?_ (by rw[sizeLine_eq];lia))
 have c:(k.push (seqObj "list" a.toList.toArray 0)).get? k.objs.size=some (seqObj "list" a.toList.toArray 0):=Heap.get?_push_size _ rfl
 refine wpAny_bind (wpAny_holding (wpAny_call_entry slot_list_sort (_,c,rfl) entry_list_sort (yc c x (by lia) λg l O z M=>(_,rfl,?_)) (args_list_sort _)));refine wpAny_pure (_,rfl,?_);obtain⟨e,H⟩:=sortedHeap_at (out:=g) c;refine h k.objs.size _ d _ g.toList l e (adi n) (λb o y=>?_) (by simpa using H) O (z.trans p) M (by rw[z.length_eq,q];exact j);have i:=Heap.lt_size (u _ _ y);rw[sortedHeap_old (aaq i) (by rw[Heap.size_push];exact agy i)];exact Heap.get?_push_of_some _ (u _ _ y)
end
end Tw
namespace L2
open PySem.Spec PyProof.Rows Tw
theorem ux:∀{c:List Value},Vals (N.map V.str) c->StrsAre c N:=by
 induction N with
 | nil =>
  intro c r;rw[ahc]at r;cases r;exact .nil
 | cons n e d =>
  intro c r;rw[aaA]at r;cases r with
  | cons a b =>
   obtain⟨t,rfl⟩:=a;exact .cons n t (d b)
theorem qt:∀{a:List Value}{b:List Str},StrsAre a b->Vals (b.map V.str) a
 | _,_,.nil=>.nil
 | _,_,.cons _ t h=>.cons (t,rfl) (qt h)
theorem sJ(h:StrsAre r N):r.length=N.length:=by
 rw[<-h.strs,aaa]
section
def Gf(P:Program)(w:World)(a:Addr)(b:List Str):HO:=.ext λh=>jo (cR w) (PySem.strKind P w) h a b
theorem Kv{P:Program}{w:World}{a:Addr}(e:jo (cR w) (PySem.strKind P w) h' a N):bB P w H h' a (Gf P w a N):=by
 refine(e,?_,λ_ _ p k=>p.at k);obtain⟨o,_,_,_,_,b,_⟩:=e;exact(o,b)
theorem sO(G:X.calm=true):gn X (.type "set") (λxs H Q=>∃(p:Addr) (c:List Str),xs=[.ref p]/\My X.K H p (c.map V.str)/\(met (λi=>c.getD i ⟨#[]⟩) c.length).length+1<scanBound /\
  ∀l m o,H l=none->m=met (λi=>c.getD i ⟨#[]⟩) c.length->o=Gf X.prog X.w l m->Q (.ref l) (upd H l o)):=by
 intro O s N H xs P Q I r h;obtain⟨p,a,rfl,E,J,q⟩:=h;obtain⟨u,rfl,A⟩:=vals1 r;cases A;obtain⟨d,B,C,R⟩:=I.list E;have x:=ux B;have j:=sJ x;have g:d.toArray.size=a.length:=by simpa using j
 refine xX (knd:=PySem.strKind X.prog X.w) (f:=λi=>a.getD i ⟨#[]⟩) (I.ok.hd G) C.isList (λi v e=>?_) (by rw[g];exact J) λS z y F=>?_
 ·have M:d[i]?=some v:=by simpa using e
  have:∀{k:List Value}{a:List Str},StrsAre k a -> ∀(i:Nat) v,k[i]?=some v->Value.isStrOf (a.getD i ⟨#[]⟩) v=true/\v.scannable=true:=by
   intro k a L
   induction L with
   | nil=>intro i v e;simp at e
   | cons n t _ D =>
    intro i v e;cases i with
    | zero =>
     simp at e;subst e;exact(by simp[Value.isStrOf],rfl)
    | succ i=>exact D i v (by simpa using e)
  exact this x i v M
 ·rw[g]at y;exact(.ref s.heap.objs.size,_,I.laid (t':=z) (λb o e=>F b o (Heap.lt_size e) e) (aac _) (Kv y),rfl,q _ _ _ (I.hok.fresh (aac _)) rfl rfl)
theorem tY:gn X (.builtin "len") (λxs H Q=>∃(p:Addr) (a:List Str),xs=[.ref p]/\H p=some (Gf X.prog X.w p a)/\Q (.int (a.length:Int)) H):=by
 intro x s v H xs y Q I r h;obtain⟨p,a,rfl,g,q⟩:=h;obtain⟨u,rfl,f⟩:=vals1 r;cases f;have k:jo (cR X.w) (PySem.strKind X.prog X.w) s.heap p a:=(I.hok p _ g).1;obtain⟨o,l,B,t,z,i,b,hd,A,j,_,c⟩:=k;have m:l.size=a.length:=by
  have e:=congrArg af7 c.snd;have d:=c.fst.length_eq;rw[aaa]at e d;rw[<-d,e,aae]
 have n:scanBound=4096:=rfl;refine call_len_set i b hd j (by lia) ?_;exact(.int (a.length:Int),H,I.tok (s.toks+1+1),(_,by rw[<-m]),q)
theorem pQ(v:X.calm=true):gn X (.builtin "sorted") (λxs H Q=>∃(p:Addr) (a:List Str),xs=[.ref p]/\H p=some (Gf X.prog X.w p a) /\
  ∀l b,H l=none->afv b a->VG b->Q (.ref l) (upd H l (.lst (b.map V.str)))):=by
 intro B s A H xs C Q I r h;obtain⟨p,a,rfl,n,q⟩:=h;obtain⟨u,rfl,j⟩:=vals1 r;cases j;have x:jo (cR X.w) (PySem.strKind X.prog X.w) s.heap p a:=(I.hok p _ n).1;refine wR (I.ok.hd v) x λD z d i g k e f o t y c m E=>?_;exact(.ref D,_,(I.laid (t':=i) o f (show bB X.prog X.w _ z D (.lst (k.map V.str))from (by rw[aaa,sizeLine_eq];lia,g,e,qt y,t))).drawnTo d,rfl,q _ _ (I.hok.fresh f) c m)
theorem vC:gn X (.builtin "sorted") (λxs H Q=>∃(p:Addr) (c:List Str),xs=[.ref p]/\My X.K H p (c.map V.str)/\c.length<=100000 /\ ∀l d,H l=none->afv d c->VG d->Q (.ref l) (upd H l (.lst (d.map V.str)))):=by
 intro A s z H xs B Q I r h;obtain⟨p,C,rfl,o,E,q⟩:=h;obtain⟨u,rfl,k⟩:=vals1 r;cases k;obtain⟨f,m,n,D⟩:=I.list o;have g:=ux m;have j:=sJ g;refine vg n.isList (by simpa using g) (by lia) λa b y i x=>?_;obtain⟨e,v⟩:=sortedAll_at s.heap f a;have t:b.length<=sizeLine:=by
  rw[i.length_eq,sizeLine_eq];lia
 refine(.ref (s.heap.objs.size+1),_,I.laid (t':=s.toks) (λ_ _=>sortedAll_old) (agj _) (show bB X.prog X.w _ _ _ (.lst (b.map V.str))from (by rw[aaa];exact t,a.toList,e,qt y,?_)),rfl,q _ _ (I.hok.fresh (agj _)) i x);rw[v]
end
end L2
namespace PySem
open PyProof.Rows
section
theorem tK{Q:Bool->Shared->Prop}(f:s.TypeIs (.ref a) "dict")(h:Q false s):wpAny (model prog w) A (Builtin.List.listLengthHint (.ref a)) Q E s:=by
 unfold Builtin.List.listLengthHint;refine wpAny_bind (wpAny_specialOf f F.slot_dict_len.lookup ?_)
 generalize e:("dict.__len__" : String)=id0
 wp_delta
 rw[show splitId id0=some (pq ("dict") ("__len__"))from by subst e;decide +kernel]
 subst e
 refine wpAny_bind (wpAny_isInstance (T := "dict") (b:=true) f (by rw[isSubtype_type];kernel_rfl) ?_)
 refine wpAny_ite_split (λc=>absurd c (by decide)) (λ_=>?_);refine wpAny_ite_split (λ_=>?_) (λc=>absurd (by decide +kernel) c);refine wpAny_bind (wpAny_typeOf f ?_);exact wpAny_pure h
end
section
variable{K:Type}[DecidableEq K]{knd:KeyKind prog w K}
theorem o9{g:List (K×Value)}(hh:A.handled=none)(S:Addr)(r:Value)(t:Nat)(hd:(a == sysModules)=false)(m:s.heap.DictAt knd a g n)(C:S≠a)
  (V:s.heap.get? S=some { cls:=.type "list",data:=.seq #[] t })
  (hR:∀h' tk l G,(∀b o,b≠S->s.heap.get? b=some o->h'.get? b=some o)->h'.get? S=some { cls:=.type "list",dict:=none,data:=.seq l G,slots:=#[] } ->
   ItemsOf (λi v=>∃k x,g[i]?=some (pq k x)/\knd.is k v=true) l g.length->R (.ok (.ret r)) { s with heap:=h',toks:=tk })(Y:g.length<=sizeLine):
  wpAny (model prog w) A.in1 (Builtin.List.listExtendWith (.ref S) (.ref a) r)
   (λT u=>match T with | .done f=>R (.ok f) u | .again G=>G.quiet=true/\codeAny (model prog w) A G R u) (λe u=>R (.error e) u) s:=by
 have U:s.TypeIs (.ref a) "dict":=m.dictOf.typeIs
 obtain⟨od,a0,B,_⟩:=id m;have L:=Heap.lt_size B;have N:S<s.heap.objs.size:=Heap.lt_size V;have J:S≠s.heap.objs.size:=aaq N;have O:a≠s.heap.objs.size:=aaq L;have P:S∉[s.heap.objs.size,a]:=λm=>by
  rcases aaH.mp m with e|m
  ·exact J e
  ·exact C (aaj.mp m)
 have W:=(Walks.dictKeys (prog:=prog) (w:=w) (A:=A.in1) (knd:=knd) hh s.heap.objs.size a O g n).toS;have I:∀(h:Heap) (q tk:Nat),h.IsKeyIter s.heap.objs.size a 0 g.length n->h.DictAt knd a g n->(∀b o,b≠S->s.heap.get? b=some o->h.get? b=some o) ->
   h.get? S=some { cls:=.type "list",data:=.seq #[] q }->codeAny (model prog w) A (.builtin "list.extend.loop" ([.ref S,.ref s.heap.objs.size,r],[])) R { s with heap:=h,toks:=tk }:=by
  intro h q tk j D Z H;refine codeAny_extend_loopS W Y S P r g.length 0 _ #[] q rfl (aaK _) (j,D) H (ItemsOf.nil _) λu l G m Q M=>?_;rw[Moved.eq_with m];refine hR u.heap u.toks l G (λb o y e=>m.heap b o (λp=>?_) (Z b o y e)) Q M;rcases aaH.mp p with e' | p
  ·exact y e'
  ·exact absurd (Heap.lt_size e) (by rw[aaj.mp p];exact adK _)
 unfold Builtin.List.listExtendWith;refine wpAny_bind (wpAny_typeOf U ?_);have h1:Builtin.List.listSameRef (.ref S) (.ref a)=false:=by simp[Builtin.List.listSameRef,C]
 have h2:(Value.type "dict" == Value.type "list")=false:=by decide
 have h3:(Value.type "dict" == Value.type "tuple")=false:=by decide
 simp only[h1,h2,h3,ahJ,acr,if_false];refine wpAny_bind (wpAny_pyIter_dict hd m ?_)
 have E:∀b o,s.heap.get? b=some o->(s.heap.push { cls:=.type "dict_keyiterator",data:=.fields #[.ref a,.int 0 0,.int g.length 0,.int n 0] }).get? b=some o:=λb o e=>Heap.get?_push_of_some _ e
 have j:(s.heap.push { cls:=.type "dict_keyiterator",data:=.fields #[.ref a,.int 0 0,.int g.length 0,.int n 0] }).IsKeyIter s.heap.objs.size a 0 g.length n:=(_,Heap.get?_push_size _ rfl,rfl,rfl)
 have H:=E S _ V
 refine wpAny_bind (wpAny_holding (tK (s:={ s with heap:=s.heap.push { cls:=.type "dict_keyiterator",data:=.fields #[.ref a,.int 0 0,.int g.length 0,.int n 0] } }) (_,E a _ B,by obtain⟨o,e,c⟩:=U;rw[B]at e;cases e;exact c) ?_))
 refine wpAny_ite_split (λ_=>?_) (λ_=>wpAny_pure (plainId_quiet F.plain_extend_loop _,I _ t _ j (m.at' λo e=>E a o e) (λb o _ e=>E b o e) H));refine wpAny_bind (wpAny_rule ?_);refine wpAny_bind ?_;show wpAny _ _ (updateSeq S (·.push .none) >>= λ_=>updateSeq S (·.pop)) _ _ _;refine wpAny_bind (wpAny_updateSeq H rfl ?_);have X:=Heap.get?_update_self (Obj.mapSeq (·.push Value.none)) H rfl;refine wpAny_updateSeq (hz:=by seq_fits) X rfl ?_;have YC:=Heap.get?_update_self (Obj.mapSeq (·.pop)) X rfl
 have z:∀b o,b≠S->(s.heap.push { cls:=.type "dict_keyiterator",data:=.fields #[.ref a,.int 0 0,.int g.length 0,.int n 0] }).get? b=some o->(((s.heap.push { cls:=.type "dict_keyiterator",data:=.fields #[.ref a,.int 0 0,.int g.length 0,.int n 0] }).update S (Obj.mapSeq (·.push Value.none))).update S (Obj.mapSeq (·.pop))).get? b=some o:=
  λb o y e=>(Heap.get?_update_other _ _ (ae2 y)).trans ((Heap.get?_update_other _ _ (ae2 y)).trans e)
 exact wpAny_pure (plainId_quiet F.plain_extend_loop _,I _ _ _ (j.at λo e=>z _ o (ae2 J) e) ((m.at' λo e=>E a o e).at' λo e=>z a o (ae2 C) e) (λb o y e=>z b o y (E b o e)) YC)
theorem lL{g:List (K×Value)}(D:A.handled=none)(S:Addr)(hd:(a == sysModules)=false)(B:s.heap.DictAt knd a g n)(l:S≠a)
  (r:s.heap.get? S=some { cls:=.type "list",data:=.seq #[] })
  (E:∀h' tk c h,(∀b o,b≠S->s.heap.get? b=some o->h'.get? b=some o)->h'.get? S=some { cls:=.type "list",dict:=none,data:=.seq c h,slots:=#[] } ->
   ItemsOf (λi v=>∃k x,g[i]?=some (pq k x)/\knd.is k v=true) c g.length->R (.ok (.ret .none)) { s with heap:=h',toks:=tk })(z:g.length<=sizeLine):
  wpAny (model prog w) A.in1 (Builtin.«list.__init__» ([.ref S,.ref a],[]))
   (λy p=>match y with | .done f=>R (.ok f) p | .again h=>h.quiet=true/\codeAny (model prog w) A h R p) (λe p=>R (.error e) p) s:=by
 show wpAny _ _ (do let t <-Builtin.List.listItems (.ref S);Builtin.List.listUpdate (.ref S) (λ_=>#[]);letGo t.toList.reverse;Builtin.List.listExtendWith (.ref S) (.ref a) .none) _ _ s;refine wpAny_bind ?_;unfold Builtin.List.listItems;refine wpAny_bind (wpAny_seqItems r rfl (wpAny_pure ?_));show wpAny _ _ (updateSeq S (λ_=>#[]) >>= λ_=>letGo (#[]:Array Value).toList.reverse >>= λ_=>Builtin.List.listExtendWith (.ref S) (.ref a) .none) _ _ s;refine wpAny_bind (wpAny_updateSeq r rfl ?_);have F:=Heap.get?_update_self (Obj.mapSeq (λ_=>(#[]:Array Value))) r rfl;have j:∀b o,b≠S->s.heap.get? b=some o->(s.heap.update S (Obj.mapSeq (λ_=>(#[]:Array Value)))).get? b=some o:=
  λb o q e=>(Heap.get?_update_other _ _ (ae2 q)).trans e
 refine wpAny_bind (wpAny_letGo ?_);refine o9 D S .none _ hd (B.at' λo e=>j a o (ae2 l) e) l F (λh' tk c h C u m=>?_) z;exact E h' tk c h (λb o q e=>C b o q (j b o q e)) u m
end
section
variable{K:Type}[DecidableEq K]{knd:KeyKind prog w K}
theorem uO{Q:Value->Shared->Prop}{f:List (K×Value)}(z:A.handled=none)(hd:(a == sysModules)=false)(r:s.heap.DictAt knd a f n)(u:f.length<=sizeLine)
  (B:∀h' tk c m,(∀b o,s.heap.get? b=some o->h'.get? b=some o)->h'.get? s.heap.objs.size=some { cls:=.type "list",dict:=none,data:=.seq c m,slots:=#[] } ->
   ItemsOf (λi v=>∃k x,f[i]?=some (pq k x)/\knd.is k v=true) c f.length->Q (.ref s.heap.objs.size) { s with heap:=h',toks:=tk }):
  wpAny (model prog w) A (call (.type "list") [.ref a]) Q E s:=by
 obtain⟨D,C,p,_⟩:=id r
 refine callType_codes (Q₁:=λh g=>h=.ref s.heap.objs.size/\g={ s with heap:=s.heap.push { cls:=.type "list",data:=.seq #[] } }) F.called_list (F.typeCall_list_1 _) F.entry_list_init
  (code_list_new _ (rfl,rfl)) λh g j=>?_
 obtain⟨rfl,rfl⟩:=j
 have t:(s.heap.push { cls:=.type "list",data:=.seq #[] }).get? s.heap.objs.size=some { cls:=.type "list",data:=.seq #[] }:=Heap.get?_push_size _ rfl
 refine((_,t,rfl),F.args_list_init_2 _ _,lL (A:=A.in1) z _ hd (r.at' λo e=>Heap.get?_push_of_some _ e) (agZ (Heap.lt_size p)) t (λh' tk c m y q l=>?_) u);exact(rfl,B h' tk c m (λb o e=>y b o (aaq (Heap.lt_size e)) (Heap.get?_push_of_some _ e)) q l)
end
end PySem
namespace L2
open PySem.Spec PyProof.Rows PySem.W
section
theorem vz(J:X.calm=true):gn X (.type "list") (λxs H Q=>∃(d:Addr) (a:List (Key×V)),xs=[.ref d]/\H d=some (.dK a) /\ ∀l,H l=none->Q (.ref l) (upd H l (.lst (a.map λp=>kV p.1)))):=by
 intro π s σ H xs b Q I r h;obtain⟨d,a,rfl,hd,q⟩:=h;obtain⟨u,rfl,B⟩:=vals1 r;cases B;obtain⟨D,F,n,t,dd⟩:=(show bB X.prog X.w H s.heap d (.dK a)from I.hok d _ hd);obtain⟨o,T,U,R,P,O,N,M,L⟩:=id dd;have g:a.length=n.length:=Paired.length t;refine uO (knd:=b8 X.prog X.w) (I.ok.hd J) F (show s.heap.DictAt (b8 X.prog X.w) d n U from (o,T,R,P,O,N,M,L)) (by lia) λS A e c' G K c=>?_;have E:Vals (a.map λp=>kV p.1) e.toList:=by
  have:∀(f:List (Key×V)) (b:List Value),f.length=b.length->(∀(i:Nat) p u,f[i]?=some p->b[i]?=some u->RelV (kV p.1) u)->Vals (f.map λp=>kV p.1) b:=by
   intro f
   induction f with
   | nil =>
    intro b g _;cases b with
    | nil=>exact .nil
    | cons _ _=>simp at g
   | cons p f C =>
    intro b g y;cases b with
    | nil=>simp at g
    | cons u b=>exact .cons (y 0 p u rfl rfl) (C b (by simpa using g) λi q v m j=>y (i+1) q v m j)
  refine this a e.toList (g.trans (c.1.symm.trans aae.symm)) λi p u m j=>?_;obtain⟨k,x,Z,Y⟩:=c.2 i u (by rw[<-abT];exact j);obtain⟨q',z,W⟩:=t.get m;rw[Z]at z;cases z;rw[W];exact Q5 Y
 exact(.ref s.heap.objs.size,_,I.laid (t':=A) G (aac _) (show bB X.prog X.w _ S _ (.lst (a.map λp=>kV p.1))from (by rw[aaa];exact D,e.toList,c',E,K)),rfl,q _ (I.hok.fresh (aac _)))
end
section
inductive G6(x:V)(xs:List V)(H:Hp)(Q:VK):Prop
 | mk (z y:Str) (i:Nat) (rest:List Nat) (_:x=.str z) (_:xs=[.str y]) (_:Builtin.Str.occurrences z y 0 z.length 1=i::rest) (_:Q (.int (i:Int)) H)
theorem Hu:Xq X "str.index" G6:=by
 intro g s f H x j v k Q I b c h;obtain⟨z,y,i,rest,rfl,rfl,e,q⟩:=h;obtain⟨t,rfl⟩:=b;obtain⟨u,rfl,d⟩:=vals1 c;obtain⟨a,rfl⟩:=d;exact call_gives F.slot_str_index (typeIs_str _ _ _) F.entry_str_index (F.args_str_index_2 _ _) (gives_str_index z y t a i rest e) (.int (i:Int),H,I.tok _,(_,rfl),q)
end
section
inductive Ss(x:V)(y:V)(H:Hp)(Q:VK):Prop
 | mk (u v:Str) (_:x=.str u) (_:y=.str v) (_:Q (.bl (decide (u.cps.toList<v.cps.toList))) H)
theorem Qc:Tn X (compareOp .Lt) Ss:=by
 intro f s e H x y v u Q I d c h;obtain⟨a,b,rfl,rfl,q⟩:=h;obtain⟨t,rfl⟩:=d;obtain⟨g,rfl⟩:=c;exact P.lt_str (.bl _,H,I,rfl,q)
end
end L2
namespace Tw
def Uu(a b:Str):Prop:=a.cps.toList<b.cps.toList
theorem ie{a b:Str}(h:a.cps.toList=b.cps.toList):a=b:=by
 cases a;cases b;congr 1;exact Array.toList_inj.mp h
theorem O9{a b:Str}(h:¬b.cps.toList<a.cps.toList)(e:a≠b):Uu a b:=by
 rcases List.le_total (a.cps.toList) (b.cps.toList)with c|c
 ·by_cases d:a.cps.toList<b.cps.toList
  ·exact d
  ·exact absurd (ie (aiz (aiG.mp h) (aiG.mp d))) e
 ·exact absurd (ie (aiz (aiG.mp h) c)) e
theorem eE(a:Str):¬Uu a a:=ah5 _
theorem rn{a b c:Str}(h:Uu a b)(h':Uu b c):Uu a c:=ahN h h'
theorem uL(h:VG N)(c:N.Nodup):N.Pairwise Uu:=List.Pairwise.imp₂ (λa b e d=>O9 e d) h c
theorem xH:∀{l g:List Str},l.Pairwise Uu->g.Pairwise Uu->(∀z,z∈l ↔ z∈g)->l=g
 | [],[],_,_,_=>rfl
 | [],b::j,_,_,h=>absurd ((h b).mpr aa5) agp
 | a::r,[],_,_,h=>absurd ((h a).mp aa5) agp
 | a::r,b::j,p,k,h=>by
  have f:=ag5.mp p;have d:=ag5.mp k;have e:a=b:=by
   rcases aaH.mp ((h a).mp aa5)with e|e
   ·exact e
   ·rcases aaH.mp ((h b).mpr aa5)with i|i
    ·exact i.symm
    ·exact absurd (rn (d.1 a e) (f.1 b i)) (eE _)
  subst e;rw[xH f.2 d.2 λz=>?_];constructor
  ·intro c;rcases aaH.mp ((h z).mp (aaL _ c))with e|e
   ·exact absurd (e ▸ f.1 z c) (eE _)
   ·exact e
  ·intro c;rcases aaH.mp ((h z).mpr (aaL _ c))with e|e
   ·exact absurd (e ▸ d.1 z c) (eE _)
   ·exact e
def beg(w:Str)(k:Nat):Str:=⟨(w.cps.toList.take k).toArray⟩
theorem cA(w:Str)(k:Nat):(beg w k).cps.toList=w.cps.toList.take k:=by
 unfold beg;exact ahu
theorem uf(w:Str)(k:Nat):(beg w k).length=min k w.length:=by
 show (beg w k).cps.size=min k w.cps.size;rw[<-aae,cA,aaI,aae]
theorem MT(w:Str){j k:Nat}(h:j<=k):beg (beg w k) j=beg w j:=ie (by rw[cA,cA,cA,ag9,aev h])
theorem MP(w:Str){k:Nat}(h:w.length<=k):beg w k=w:=ie (by rw[cA,aai (by rw[aae];exact h)])
theorem um(w:Str)(k:Nat):lF w none (some (k:Int))=beg w k:=by
 refine ie ?_;rw[cA];unfold lF;rw[ahu,HT.lu,agU,agA,HT.jT];rcases ah0 k w.length with c|c
 ·rw[aev c]
 ·rw[agn c,aai (by rw[aae];exact aac _),aai (by rw[aae];exact c)]
theorem sS:∀{p u:List Nat}{c:Nat},¬u<p->u<p++[c]->p.length<=u.length
 | [],_,_,_,_=>aaK _
 | a::p,[],c,h,_=>absurd (ahk a p) h
 | a::p,b::u,c,h,d=>by
  rw[af5,aeu]at d;rw[aeu]at h;have e:b=a/\u<p++[c]:=by
   rcases d with d | d
   ·exact absurd (.inl d) h
   ·exact d
  have:=sS (λz=>h (.inr (e.1,z))) e.2;rw[aaY,aaY];lia
structure m7(ws ts:List Str):Prop where
 up:ts.Pairwise Uu
 mem:∀t,t∈ts ↔ t=⟨#[]⟩ \/ ∃w∈ws,∃k:Nat,t=beg w k
theorem m7.uniq{a:List Str}(h:m7 N ps)(h':m7 N a):ps=a:=xH h.up h'.up λt=>(h.mem t).trans (h'.mem t).symm
theorem m7.pre(h:m7 N ps){t:Str}(ht:t∈ps)(k:Nat):beg t k∈ps:=by
 rcases(h.mem t).mp ht with e|⟨w,a,j,e⟩
 ·refine(h.mem _).mpr (.inl ?_);rw[e];refine ie ?_;rw[cA];exact ahO
 ·rcases ah0 k j with c|c
  ·exact(h.mem _).mpr (.inr (w,a,k,by rw[e,MT w c]))
  ·refine(h.mem _).mpr (.inr (w,a,j,?_));rw[e];refine MP _ ?_;rw[uf];lia
theorem m7.zero(h:m7 N ps):ps[0]?=some ⟨#[]⟩:=by
 have b:=(h.mem ⟨#[]⟩).mpr (.inl rfl);cases ps with
 | nil=>exact absurd b agp
 | cons a r =>
  rcases aaH.mp b with e|e
  ·rw[e];rfl
  ·have c:=(ag5.mp h.up).1 _ e;unfold Uu at c;exact absurd c (ah1 _)
theorem m7.good(h:m7 N ps):gj (ps.map λt=>(t.length:Int)):=by
 refine(by rw[aah,h.zero];rfl,λi x y A w=>?_);rw[aah]at A w;obtain⟨u,F,rfl⟩:=abu.mp A;obtain⟨t,ht,rfl⟩:=abu.mp w;obtain⟨B,q⟩:=aab.mp F;obtain⟨m,s⟩:=aab.mp ht;have b:Uu u t:=by
  rw[<-q,<-s];exact abR.mp h.up i (i+1) B m (agf _)
 have H:t.length≠0:=λe=>by
  have:t.cps.toList=[]:=ahP.mp (by rw[aae];exact e);unfold Uu at b;rw[this]at b;exact absurd b (ah1 _)
 refine(by lia,?_);have G:=h.pre (aag ht) (t.length - 1);obtain⟨j,I⟩:=abk G;obtain⟨l,f⟩:=aab.mp I;have d:t.cps.toList.length=t.length:=aae;obtain⟨c,C⟩:∃c,t.cps.toList=(beg t (t.length - 1)).cps.toList++[c]:=by
  rw[cA];have k:t.cps.toList≠[]:=λe=>H (by rw[<-d,e];rfl);exists t.cps.toList.getLast k;rw[show t.length - 1=t.cps.toList.length - 1 by rw[d],<-List.dropLast_eq_take];exact(agI k).symm
 have v:Uu (beg t (t.length - 1)) t:=by
  unfold Uu;rw[C];have:∀(p:List Nat) (c:Nat),p<p++[c]:=λp c=>by
   induction p with
   | nil=>exact ahk c []
   | cons a r E =>
    rw[af5,aeu];exact .inr (rfl,E)
  exact this _ _
 have J:j<=i:=by
  rcases aas i j with g|g
  ·rcases aas (i+1) j with D|D
   ·have:=abR.mp h.up (i+1) j m l D;rw[s,f]at this;exact absurd (rn this v) (eE _)
   ·have e:j=i+1:=by lia
    subst e;rw[s]at f;rw[<-f]at v;exact absurd v (eE _)
  ·exact g
 have n:¬u.cps.toList<(beg t (t.length - 1)).cps.toList:=λz=>by
  rcases aas j i with g|g
  ·have:=abR.mp h.up j i l B g;rw[f,q]at this;exact absurd (rn this z) (eE _)
  ·have e:j=i:=by lia
   subst e;rw[q]at f;rw[f]at z;exact absurd z (ah5 _)
 have o:=sS n (by rw[<-C];exact b);rw[cA,aaI,d,aae]at o;have:u.cps.size=u.length:=rfl;lia
def YQ:List Nat->List Nat->Nat
 | a::u,b::v=>if a=b then YQ u v+1 else 0
 | _,_=>0
def fresh(u w:Str):List Str:=(adU (w.length - YQ u.cps.toList w.cps.toList)).map λi=>beg w (YQ u.cps.toList w.cps.toList+i+1)
theorem gY(x:List Nat):¬x<x:=ah5 x
theorem Dj:∀(p:List Nat) {x y:List Nat},p++x<p++y ↔ x<y
 | [],_,_=>Iff.rfl
 | a::p,x,y=>by
  rw[af5,af5,aeu,Dj p];constructor
  ·rintro(h|⟨_,h⟩)
   ·exact absurd h (adK _)
   ·exact h
  ·exact λh=>.inr (rfl,h)
theorem pJ(p:List Nat)(c:Nat)(s:List Nat):p<p++c::s:=by
 have:=(Dj p (x:=[]) (y:=c::s)).mpr (ahk c s);rw[agJ]at this;exact this
theorem GQ:∀{u v:List Nat},u.length=v.length->u<v -> ∀a b:List Nat,u++a<v++b
 | [],[],_,h,_,_=>absurd h (gY _)
 | [],_::_,h,_,_,_=>by cases h
 | _::_,[],h,_,_,_=>by cases h
 | x::u,y::v,h,d,a,b=>by
  rw[af5,af5,aeu];rcases aeu.mp d with z|⟨z,c⟩
  ·exact .inl z
  ·exact .inr (z,GQ (by simpa using h) c a b)
theorem vd:∀{p x s:List Nat},¬x<p -> ¬p++s<x->x.take p.length=p
 | [],x,s,_,_=>by simp
 | a::p,[],s,h,_=>absurd (ahk a p) h
 | a::p,b::x,s,h,c=>by
  rw[af5,aeu]at c;rw[aeu]at h;have e:a=b:=by
   rcases agw a b with z|z|z
   ·exact absurd (.inl z) c
   ·exact z
   ·exact absurd (.inl z) h
  subst e;rw[aaY,agY,vd (λz=>h (.inr (rfl,z))) (λz=>c (.inr (rfl,z)))]
theorem zQ(x:List Nat)(k:Nat):¬x<x.take k:=λh=>by
 have e:=acA k x;cases q:x.drop k with
 | nil =>
  rw[q,agJ]at e;rw[e]at h;exact gY _ h
 | cons c s =>
  rw[q]at e;have:=pJ (x.take k) c s;rw[e]at this;exact gY _ (ahN this h)
structure PC(L:List (List Nat)):Prop where
 up:L.Pairwise (· < ·)
 pre:∀t∈L,∀k,t.take k∈L
theorem PC.lt{L:List (List Nat)}(h:PC L){i j:Nat}{x y:List Nat}(e:L[i]?=some x)(d:L[j]?=some y)(b:i<j):x<y:=by
 obtain⟨c,rfl⟩:=aab.mp e;obtain⟨a,rfl⟩:=aab.mp d;exact abR.mp h.up i j c a b
theorem PC.le{L:List (List Nat)}(h:PC L){i j:Nat}{x y:List Nat}(c:L[i]?=some x)(b:L[j]?=some y)(a:¬y<x):i<=j:=by
 rcases aas j i with z|z
 ·exact absurd (h.lt b c z) a
 ·exact z
theorem PC.idx{L:List (List Nat)}(h:PC L){i j:Nat}{x:List Nat}(b:L[i]?=some x)(a:L[j]?=some x):i=j:=ahU (h.le b a (gY _)) (h.le a b (gY _))
theorem PC.under{L:List (List Nat)}(h:PC L){i j:Nat}{t x:List Nat}(e:L[j]?=some t)(d:L[i]?=some x)(b:j<i)(f:∀m y,j<m->m<=i->L[m]?=some y->t.length<y.length):x.take t.length=t:=by
 obtain⟨k,a⟩:=abk (h.pre x (aag d) t.length);have c:(x.take t.length).length=t.length:=by
  rw[aaI];have:=f i x b (aac _) d;lia
 have g:=h.le a d (zQ x _);rcases agw k j with z|z|z
 ·have:=GQ c (h.lt a e z) (x.drop t.length) [];rw[acA,agJ]at this;exact absurd (ahN this (h.lt e d b)) (gY _)
 ·subst z;rw[e]at a;exact(aap a).symm
 ·have:=f k _ z g a;lia
theorem zN{x t:List Nat}(h:x.take t.length=t)(b:x.length=t.length+1):∃e,x=t++[e]:=by
 have e:=acA t.length x;rw[h]at e;have:(x.drop t.length).length=1:=by rw[abU];lia
 obtain⟨c,a⟩:=List.length_eq_one_iff.mp this;exact(c,by rw[<-a,e])
theorem oW{t:List Nat}{a b:Nat}:t++[a]<t++[b] ↔ a<b:=by
 rw[Dj,aeu];constructor
 ·rintro(h|⟨_,h⟩)
  ·exact h
  ·exact absurd h (gY _)
 ·exact .inl
abbrev lens(L:List (List Nat)):List Int:=L.map λt=>(t.length:Int)
theorem G5{L:List (List Nat)}{i:Nat}(h:(lens L)[i]?=some m):∃t,L[i]?=some t/\m=t.length:=by
 rw[aah]at h;obtain⟨t,b,a⟩:=abu.mp h;exact(t,b,a.symm)
theorem m5{L:List (List Nat)}{i:Nat}{t:List Nat}(h:L[i]?=some t):(lens L)[i]?=some (t.length:Int):=by
 rw[aah,h];rfl
theorem PC.of_lt{L:List (List Nat)}(h:PC L){i j:Nat}{x y:List Nat}(c:L[i]?=some x)(b:L[j]?=some y)(a:x<y):i<j:=by
 rcases aas i j with z|z
 ·exact z
 ·have e:i=j:=ahU (h.le c b λq=>gY _ (ahN a q)) z;subst e;rw[c]at b;cases b;exact absurd a (gY _)
theorem PC.mid{L:List (List Nat)}(h:PC L){i j k:Nat}{t x s:List Nat}(c:L[j]?=some t)(a:L[i]?=some x)(b:L[k]?=some (t++s))(e:j<=i)(d:i<=k):x.take t.length=t:=by
 refine vd (s:=s) (λq=>?_) (λq=>?_)
 ·have:=h.of_lt a c q;lia
 ·have:=h.of_lt b a q;lia
theorem ym{x t:List Nat}(h:x.take t.length=t):t.length<=x.length:=by
 have:=congrArg af7 h;rw[aaI]at this;lia
theorem PC.first{L:List (List Nat)}(h:PC L){j:Nat}{t:List Nat}(g:L[j]?=some t):
  ((lens L)[j+1]?=some ((t.length:Int)+1) -> ∃e,L[j+1]?=some (t++[e]) /\ ∀c,c<e->t++[c]∉L) /\
  ((lens L)[j+1]? ≠ some ((t.length:Int)+1) -> ∀c,t++[c]∉L):=by
 refine(λhd=>?_,λhd c q=>hd ?_)
 ·obtain⟨x,a,e⟩:=G5 hd;have p:x.length=t.length+1:=by lia
  have b:=h.under g a (agf j) λm y D C o=>by
   have:m=j+1:=by lia
   subst this;rw[a]at o;cases o;lia
  obtain⟨c,rfl⟩:=zN b p;refine(c,a,λe i d=>?_);obtain⟨k,f⟩:=abk d;have B:=h.of_lt f a (oW.mpr i);have n:=h.of_lt g f (pJ t e []);lia
 ·obtain⟨k,f⟩:=abk q;have n:=h.of_lt g f (pJ t c []);have u:=(aab.mp f).1;obtain⟨x,a⟩:∃x,L[j+1]?=some x:=(_,aad (by lia));have b:=h.mid g a f (agj j) n;have v:=ym b;rw[m5 a];have s:x.length≠t.length:=λz=>by
   rw[aai (by lia)]at b;have:=h.idx g (b ▸ a);lia
  obtain⟨m,d⟩:=abk (h.pre x (aag a) (t.length+1));have A:=h.le d a (zQ x _);have r:(x.take (t.length+1)).take t.length=t:=by rw[ag9,aev (agj _)];exact b
  have l:(x.take (t.length+1)).length=t.length+1:=by rw[aaI];lia
  obtain⟨e,i⟩:=zN r l;have w:=h.of_lt g d (by rw[i];exact pJ t e []);have:m=j+1:=by lia
  subst this;rw[a]at d;have:=congrArg af7 (aap d);rw[l]at this;rw[this];rfl
theorem PC.next{L:List (List Nat)}(h:PC L){i:Nat}{t:List Nat}{e:Nat}(o:L[i]?=some (t++[e])):
  ((lens L)[i+1+run (lens L) (i+1) ((t.length:Int)+1)]?=some ((t.length:Int)+1) -> ∃p,L[i+1+run (lens L) (i+1) ((t.length:Int)+1)]?=some (t++[p])/\e<p /\ ∀c,e<c->c<p->t++[c]∉L) /\
  ((lens L)[i+1+run (lens L) (i+1) ((t.length:Int)+1)]? ≠ some ((t.length:Int)+1) -> ∀c,e<c->t++[c]∉L):=by
 obtain⟨E,D⟩:=CW _ (i+1) (rfl:run (lens L) (i+1) ((t.length:Int)+1)=_);generalize run (lens L) (i+1) ((t.length:Int)+1)=n at *;have g:∀m y,i<m->m<i+1+n->L[m]?=some y->t.length+1<y.length:=λm y B A G=>by
  obtain⟨d,C,R⟩:=E (m - (i+1)) (by lia);rw[show i+1+(m - (i+1))=m by lia,m5 G]at C;have:=aap C;lia
 have a:∀c,e<c -> ∀k,L[k]?=some (t++[c])->i+1+n<=k:=λc v k b=>by
  have r:=h.of_lt o b (oW.mpr v);rcases aas k (i+1+n)with z|z
  ·have:=g k _ r z b;simp at this
  ·exact z
 obtain⟨j,u⟩:=abk (h.pre _ (aag o) t.length);rw[aiL]at u;have J:=h.of_lt u o (pJ t e []);refine(λhd=>?_,λhd c v l=>hd ?_)
 ·obtain⟨x,f,Q⟩:=G5 hd;have H:x.length=t.length+1:=by lia
  obtain⟨k,b⟩:=abk (h.pre x (aag f) t.length);have w:(x.take t.length).length=t.length:=by rw[aaI];lia
  have r:=h.le b f (zQ x _);have F:k<i:=by
   rcases agw k i with z|z|z
   ·exact z
   ·subst z;rw[o]at b;have:=congrArg af7 (aap b);rw[w]at this;simp at this
   ·rcases aas k (i+1+n)with y|y
    ·have:=g k _ z y b;lia
    ·have:k=i+1+n:=by lia
     subst this;rw[f]at b;have:=congrArg af7 (aap b);lia
  have q:=h.mid b o (s:=x.drop t.length) (by rw[acA];exact f) (adi F) (by lia);rw[w,aiL]at q;obtain⟨p,rfl⟩:=zN q.symm H;refine(p,f,oW.mp (h.lt o f (by lia)),λc B A l=>?_);obtain⟨m,l⟩:=abk l;have P:=a c B m l;have O:=h.of_lt l f (oW.mpr A);lia
 ·obtain⟨k,b⟩:=abk l;have r:=a c v k b;have I:=(aab.mp b).1;obtain⟨x,f⟩:∃x,L[i+1+n]?=some x:=(_,aad (by lia));have q:=h.mid u f b (by lia) r;have N:=ym q;have M:x.length≠t.length:=λz=>by
   rw[aai (by lia)]at q;have:=h.idx u (q ▸ f);lia
  have K:=D _ (m5 f);rw[m5 f];congr 1;lia
end Tw
set_option Elab.async false
set_option maxRecDepth 100000
set_option maxHeartbeats 4000000
namespace Tw
def top(i:Nat):Stmt:=PySem.Challenge.pw_thinwood_k73_nodes_of_texts.main.body.getD i (.Pass (0,0,0,0))
abbrev uG:Stmt:=top 13
theorem IK:aC ["bits"] ["bits"] (δ uG):=S8 (by decide +kernel)
abbrev lZ:Stmt:=top 14
theorem pX:aC ["bits","bit"] ["bits"] (δ lZ):=S8 (by decide +kernel)
abbrev nJ:Stmt:=top 15
theorem jh:aC ["bits","block","bit"] ["bits"] (δ nJ):=S8 (by decide +kernel)
abbrev u0:Stmt:=top 16
theorem Ji:aC ["block","k"] ["block","k"] (δ u0):=S8 (by decide +kernel)
abbrev qw:Stmt:=top 17
theorem FJ:aC ["block","upto"] ["block","upto"] (δ qw):=S8 (by decide +kernel)
abbrev rJ:Stmt:=top 18
theorem El:aC ["block","upto"] ["block","upto"] (δ rJ):=S8 (by decide +kernel)
abbrev vK:Stmt:=top 19
theorem jK:aC ["block","nth","ones","k","bit"] ["block","nth"] (δ vK):=S8 (by decide +kernel)
abbrev qy:Stmt:=top 20
theorem iI:aC ["block","upto","nets","net","bit"] ["block","upto"] (δ qy):=S8 (by decide +kernel)
abbrev uB:Stmt:=top 21
theorem Jh:aC ["block","upto"] ["block","upto"] (δ uB):=S8 (by decide +kernel)
abbrev jd:Stmt:=top 22
theorem gM:aC ["block","start","stop","goal","k","net"] ["block","start","stop","goal"] (δ jd):=S8 (by decide +kernel)
abbrev jC:Stmt:=top 23
theorem dh:aC ["block","start","stop","goal","found","k","net"] ["block","start","stop","goal"] (δ jC):=S8 (by decide +kernel)
abbrev cF:Stmt:=top 24
theorem zW:aC ["look","first"] ["look","first"] (δ cF):=S8 (by decide +kernel)
abbrev rC:Stmt:=top 27
theorem kJ:aC ["numbers","size","nodes","node"] ["numbers"] (δ rC):=S8 (by decide +kernel)
abbrev qZ:Stmt:=top 28
theorem nW:aC ["many","size"] ["many"] (δ qZ):=S8 (by decide +kernel)
abbrev lB:Stmt:=top 29
theorem yM:aC ["one","other"] ["one","other"] (δ lB):=S8 (by decide +kernel)
abbrev gH:Stmt:=top 30
theorem jG:aC ["many","look","start","goal","node"] ["many","look","start","goal"] (δ gH):=S8 (by decide +kernel)
abbrev iK:Stmt:=top 31
theorem kZ:aC ["many","look","stop","goal","node"] ["many","look","stop","goal"] (δ iK):=S8 (by decide +kernel)
abbrev gQ:Stmt:=top 32
theorem dD:aC ["size","look","node","goal","side","found"] ["size","look","node","goal","side"] (δ gQ):=S8 (by decide +kernel)
abbrev gG:Stmt:=top 33
theorem rB:aC ["many","start","stop"] ["many","start","stop"] (δ gG):=S8 (by decide +kernel)
abbrev zR:Stmt:=top 34
theorem dI:aC ["many","start","stop","size","low","high","lefts","rights"] ["many","start","stop"] (δ zR):=S8 (by decide +kernel)
abbrev nT:Stmt:=top 36
theorem rP:aC ["bits","blocks"] ["bits"] (δ nT):=S8 (by decide +kernel)
abbrev n8:Stmt:=top 37
theorem mG:aC ["blocks","ahead","block"] ["blocks"] (δ n8):=S8 (by decide +kernel)
abbrev jn:Stmt:=top 38
theorem vm:aC ["at","most"] ["at","most"] (δ jn):=S8 (by decide +kernel)
abbrev uX:Stmt:=top 39
theorem Je:aC ["tables","look","at"] ["tables","look","at"] (δ uX):=S8 (by decide +kernel)
abbrev qJ:Stmt:=top 40
theorem iV:aC ["tables","look","at","many","ahead","number","within"] ["tables","look","at"] (δ qJ):=S8 (by decide +kernel)
abbrev jZ:Stmt:=top 41
theorem wL:aC ["tables","look","at"] ["tables","look","at"] (δ jZ):=S8 (by decide +kernel)
abbrev my:Stmt:=top 42
theorem j8:aC ["tables","look","nth","ahead","number"] ["tables","look","nth"] (δ my):=S8 (by decide +kernel)
abbrev mj:Stmt:=top 43
theorem zV:aC ["nth","many"] ["nth","many"] (δ mj):=S8 (by decide +kernel)
abbrev fc:Stmt:=top 44
theorem bN:aC ["numbers","goal","low","high","middle"] ["numbers","goal"] (δ fc):=S8 (by decide +kernel)
abbrev q8:Stmt:=top 46
theorem iG:aC ["bits","level","at","bit"] ["bits"] (δ q8):=S8 (by decide +kernel)
abbrev fQ:Stmt:=top 47
theorem oF:aC ["bits"] ["bits"] (δ fQ):=S8 (by decide +kernel)
abbrev gJ:Stmt:=top 48
theorem cJ:aC ["bits","row","tables","blocks","lows"] ["bits"] (δ gJ):=S8 (by decide +kernel)
abbrev vB:Stmt:=top 49
theorem Jg:aC ["tables","number","block"] ["tables","number","block"] (δ vB):=S8 (by decide +kernel)
abbrev qR:Stmt:=top 50
theorem DQ:aC ["tables","number"] ["tables","number"] (δ qR):=S8 (by decide +kernel)
abbrev iB:Stmt:=top 51
theorem tE:aC ["number","at"] ["number","at"] (δ iB):=S8 (by decide +kernel)
abbrev jW:Stmt:=top 52
theorem wD:aC ["number","upto"] ["number","upto"] (δ jW):=S8 (by decide +kernel)
abbrev jm:Stmt:=top 53
theorem vW:aC ["tables"] ["tables"] (δ jm):=S8 (by decide +kernel)
abbrev cz:Stmt:=top 54
theorem o5:aC ["tables","nodes"] ["tables"] (δ cz):=S8 (by decide +kernel)
abbrev uP:Stmt:=top 55
theorem Iu:aC ["tables","look","at"] ["tables","look","at"] (δ uP):=S8 (by decide +kernel)
abbrev kh:Stmt:=top 56
theorem fX:aC ["tables","look","at","goal","number","found","further"] ["tables","look","at","goal"] (δ kh):=S8 (by decide +kernel)
abbrev iJ:Stmt:=top 57
theorem gP:aC ["tables","look","number","at","goal","start","stop"] ["tables","look","number","at","goal"] (δ iJ):=S8 (by decide +kernel)
abbrev iT:Stmt:=top 58
theorem sW:aC ["number","within"] ["number","within"] (δ iT):=S8 (by decide +kernel)
abbrev lQ:Stmt:=top 59
theorem oG:aC ["tables","look","at","goal","found"] ["tables","look","at","goal"] (δ lQ):=S8 (by decide +kernel)
abbrev gO:Stmt:=top 60
theorem dz:aC ["tables","look","upto","goal","number","found","further"] ["tables","look","upto","goal"] (δ gO):=S8 (by decide +kernel)
abbrev jB:Stmt:=top 61
theorem mH:aC ["tables","look","number","upto","goal","stop"] ["tables","look","number","upto","goal"] (δ jB):=S8 (by decide +kernel)
abbrev gD:Stmt:=top 62
theorem rE:aC ["tables","look","at","bit"] ["tables","look","at","bit"] (δ gD):=S8 (by decide +kernel)
abbrev qY:Stmt:=top 63
theorem FW:aC ["tables","look","at"] ["tables","look","at"] (δ qY):=S8 (by decide +kernel)
abbrev rG:Stmt:=top 64
theorem Fi:aC ["tables","look","at"] ["tables","look","at"] (δ rG):=S8 (by decide +kernel)
abbrev iy:Stmt:=top 67
theorem gF:aC ["depths","ahead","depth"] ["depths"] (δ iy):=S8 (by decide +kernel)
abbrev jq:Stmt:=top 68
theorem cY:aC ["depths","bits","unclosed","depth"] ["depths"] (δ jq):=S8 (by decide +kernel)
abbrev lE:Stmt:=top 69
theorem zc:aC ["depths"] ["depths"] (δ lE):=S8 (by decide +kernel)
abbrev jt:Stmt:=top 72
theorem lH:aC ["signs","sign"] ["signs"] (δ jt):=S8 (by decide +kernel)
abbrev j4:Stmt:=top 73
theorem cW:aC ["signs","kinds","aheads","blocks","bits","row"] ["signs"] (δ j4):=S8 (by decide +kernel)
abbrev jy:Stmt:=top 74
theorem fj:aC ["kinds","signs","ranks","rank","kind"] ["kinds","signs"] (δ jy):=S8 (by decide +kernel)
abbrev jz:Stmt:=top 75
theorem v5:aC ["kind_count"] ["kind_count"] (δ jz):=S8 (by decide +kernel)
abbrev j6:Stmt:=top 76
theorem cU:aC ["ranks","kind_count","rows","order","k","bits"] ["ranks","kind_count"] (δ j6):=S8 (by decide +kernel)
abbrev vo:Stmt:=top 77
theorem rH:aC ["order","bits","noughts","ones"] ["order","bits"] (δ vo):=S8 (by decide +kernel)
abbrev lX:Stmt:=top 78
theorem eX:aC ["tables","look","levels","first","ahead"] ["tables","look"] (δ lX):=S8 (by decide +kernel)
abbrev ju:Stmt:=top 79
theorem jb:aC ["level","at","bit","row","look"] ["level","at","bit"] (δ ju):=S8 (by decide +kernel)
abbrev iZ:Stmt:=top 80
theorem tu:aC ["row"] ["row"] (δ iZ):=S8 (by decide +kernel)
abbrev qx:Stmt:=top 81
theorem eF:aC ["tables","look","at","rank","place","level","bit"] ["tables","look","at"] (δ qx):=S8 (by decide +kernel)
abbrev jV:Stmt:=top 83
theorem wW:aC ["tables"] ["tables"] (δ jV):=S8 (by decide +kernel)
abbrev jX:Stmt:=top 84
theorem ww:aC ["tables","node"] ["tables","node"] (δ jX):=S8 (by decide +kernel)
abbrev qb:Stmt:=top 85
theorem Ff:aC ["tables","look","at"] ["tables","look","at"] (δ qb):=S8 (by decide +kernel)
abbrev n6:Stmt:=top 86
theorem BK:aC ["tables","look","node"] ["tables","look","node"] (δ n6):=S8 (by decide +kernel)
abbrev nZ:Stmt:=top 87
theorem su:aC ["tables","look","node","behind"] ["tables","look","node"] (δ nZ):=S8 (by decide +kernel)
abbrev j5:Stmt:=top 88
theorem nj:aC ["tables","look","node","behind"] ["tables","look","node"] (δ j5):=S8 (by decide +kernel)
abbrev jl:Stmt:=top 92
theorem iD:aC ["words","word","letter"] ["words"] (δ jl):=S8 (by decide +kernel)
abbrev gA:Stmt:=top 93
theorem fM:aC ["words","texts","word"] ["words"] (δ gA):=S8 (by decide +kernel)
abbrev oh:Stmt:=top 94
theorem dm:aC ["words","texts","depths","letters","whole","word","ends"] ["words"] (δ oh):=S8 (by decide +kernel)
abbrev j9:Stmt:=top 95
theorem dM:aC ["words","parts","tree","letters","ends"] ["words"] (δ j9):=S8 (by decide +kernel)
abbrev fK:Stmt:=top 96
theorem oM:aC ["tables"] ["tables"] (δ fK):=S8 (by decide +kernel)
abbrev lV:Stmt:=top 97
theorem zu:aC ["tables","look","node"] ["tables","look","node"] (δ lV):=S8 (by decide +kernel)
abbrev jO:Stmt:=top 98
theorem jw:aC ["tables","look","node","letter","young"] ["tables","look","node","letter"] (δ jO):=S8 (by decide +kernel)
abbrev qT:Stmt:=top 99
theorem jR:aC ["tables","look","text","nodes","letter","young"] ["tables","look","text"] (δ qT):=S8 (by decide +kernel)
abbrev rK:Stmt:=top 100
theorem uR:aC ["tables","look","text","nodes"] ["tables","look","text"] (δ rK):=S8 (by decide +kernel)
abbrev lY:Stmt:=top 102
theorem zJ:aC ["_law_found"] ["_law_found"] (δ lY):=S8 (by decide +kernel)
abbrev lO:Stmt:=top 103
theorem dF:aC ["_law_number","_law_kinds","_law_first","_law_many","_law_word_here","_law_k","_law_at"] ["_law_number","_law_kinds","_law_first","_law_many"] (δ lO):=S8 (by decide +kernel)
abbrev ou:Stmt:=top 104
theorem gm:aC ["_law_cell","_law_words_here","_law_number","_law_way","_law_old","_law_at"] ["_law_cell","_law_words_here"] (δ ou):=S8 (by decide +kernel)
abbrev lw:Stmt:=top 105
theorem dC:aC ["_law_script","_law_words_here","_law_room","_law_cell","_law_word_here"] ["_law_script"] (δ lw):=S8 (by decide +kernel)
abbrev nF:Stmt:=top 106
theorem eU:aC ["_law_cell","_law_words_here","_law_number","_law_old","_law_way","_law_at"] ["_law_cell","_law_words_here"] (δ nF):=S8 (by decide +kernel)
abbrev cQ:Stmt:=top 107
theorem rO:aC ["_law_blocks","_law_seen","_law_told"] ["_law_blocks","_law_seen"] (δ cQ):=S8 (by decide +kernel)
abbrev lG:Stmt:=top 108
theorem oX:aC ["_law_seen","_law_size","_law_number"] ["_law_seen","_law_size"] (δ lG):=S8 (by decide +kernel)
abbrev lz:Stmt:=top 109
theorem iu:aC ["_law_words_here","_law_known","_law_word_here","_law_many"] ["_law_words_here"] (δ lz):=S8 (by decide +kernel)
abbrev Kw:Stmt:=top 110
theorem lU:aC ["_law_script","_law_words_here","_law_tables","_law_blocks","_law_texts_here","_law_text_here","_law_seen","_law_found"] ["_law_script"] (δ Kw):=S8 (by decide +kernel)
abbrev bF:Stmt:=(μ cF).getD 0 (.Pass (0,0,0,0))
abbrev aQ:o7:=lamOf bF "look_from.<locals>.<lambda>" ["number"] ["look","first"]
theorem jE:oN ["number","look","first"] aQ:=(rfl,rfl,rfl,by decide +kernel,rfl,by decide +kernel,by decide +kernel,by decide +kernel,by decide +kernel)
theorem zE:CK ["look","first"] "look_from" (δ cF) aQ [0,1] (λL=>[L+1,L+2]):=(λ_ _ _=>rfl,λ_ _ _=>rfl,λ_ _ _=>rfl,λL=>by simp,λ_=>rfl,λL f c j a h=>match j,h with|0,h=>("look",0,by cases h;rfl,by decide +kernel,rfl,rfl)|1,h=>("first",1,by cases h;rfl,by decide +kernel,rfl,rfl)|j+2,h=>absurd h (by simp))
abbrev bQ:Stmt:=(μ cz).getD 1 (.Pass (0,0,0,0))
abbrev aY:o7:=lamOf bQ "heap_look.<locals>.<lambda>" ["node"] ["nodes"]
theorem qX:oN ["node","nodes"] aY:=(rfl,rfl,rfl,by decide +kernel,rfl,by decide +kernel,by decide +kernel,by decide +kernel,by decide +kernel)
theorem yV:CK ["tables","nodes"] "heap_look" (δ cz) aY [1] (λL=>[L+1]):=(λ_ _ _=>rfl,λ_ _ _=>rfl,λ_ _ _=>rfl,λL=>by simp,λ_=>rfl,λL f c j a h=>match j,h with|0,h=>("nodes",1,by cases h;rfl,by decide +kernel,rfl,rfl)|j+1,h=>absurd h (by simp))
abbrev dU:Stmt:=(μ cQ).getD 0 (.Pass (0,0,0,0))
abbrev bU:vD:=Rt dU "_law_look.<locals>._law_told" ["_law_number"] ["_law_seen","_law_blocks"]
theorem CJ:v7 ["_law_number","_law_seen","_law_blocks"] bU:=(rfl,rfl,rfl,by decide +kernel,rfl,by decide +kernel,by decide +kernel,by decide +kernel,by decide +kernel)
theorem Cg:Qu ["_law_blocks","_law_seen","_law_told"] "_law_look" (δ cQ) bU 2 [1,0] (λL=>[L+2,L+1]):=(rO.nd,rfl,by decide +kernel,λ_ _ _=>rfl,λ_ _ _=>rfl,rfl,rfl,λ_ _ _=>rfl,λL=>by simp,λ_=>rfl,λL f c j a h=>match j,h with|0,h=>("_law_seen",1,by cases h;rfl,by decide +kernel,rfl,rfl,by decide)|1,h=>("_law_blocks",0,by cases h;rfl,by decide +kernel,rfl,rfl,by decide)|j+2,h=>absurd h (by simp),by decide,by decide)
structure FI(K:PySem.W.Frag)(n:Str)(st:Stmt)(f:Addr)(fd:FuncData):Prop where
 a:PySem.W.nsIn K mainGlobals n=some (some (.ref f))
 F:T7 K n n st f fd
theorem Ox{C:List O->Prop}{a:List O}(c:a.length=1)(h:∀b,C [b]):C a:=match a,c with | [_],_=>h _
theorem TF{mg:Str->Option Value}{n :Str}{st:Stmt}{f:Addr}{fd:FuncData}(X:K.In h')(G:h'.Ns mainGlobals mg)(d:FI K n st f fd)(b:∀(kV c i:Value) (k:Option Addr) (e j:Value) (l:Value),bindArgs (PySem.W.fnOf n n (ν st) (μ st) (δ st) .none kV c i k e j) ([l],[])=pure (agX [x] [l]):=by intros;exact rfl):Df K mg n st [x] f fd:=(d.F,d.F.binds (ps:=[x]) λkV c i k e j g m=>Ox (C:=λg=>bindArgs _ (g,[])=pure (agX ([x]:List Str) g)) m (b kV c i k e j),PySem.W.mg_of X G d.a)
theorem Kq{C:List O->Prop}{a:List O}(d:a.length=2)(h:∀c b,C [c,b]):C a:=match a,d with | [_,_],_=>h _ _
theorem TY{mg:Str->Option Value}{n :Str}{st:Stmt}{f:Addr}{fd:FuncData}(X:K.In h')(G:h'.Ns mainGlobals mg)(d:FI K n st f fd)(b:∀(kV c i:Value) (k:Option Addr) (e j:Value) (m l:Value),bindArgs (PySem.W.fnOf n n (ν st) (μ st) (δ st) .none kV c i k e j) ([m,l],[])=pure (agX [x,qual] [m,l]):=by intros;exact rfl):Df K mg n st [x,qual] f fd:=(d.F,d.F.binds (ps:=[x,qual]) λkV c i k e j g o=>Kq (C:=λg=>bindArgs _ (g,[])=pure (agX ([x,qual]:List Str) g)) o (b kV c i k e j),PySem.W.mg_of X G d.a)
theorem RB{C:List O->Prop}{a:List O}(e:a.length=3)(h:∀d c b,C [d,c,b]):C a:=match a,e with | [_,_,_],_=>h _ _ _
theorem Ue{mg:Str->Option Value}{n :Str}{st:Stmt}{f:Addr}{fd:FuncData}(X:K.In h')(G:h'.Ns mainGlobals mg)(d:FI K n st f fd)(b:∀(kV c i:Value) (k:Option Addr) (e j:Value) (o m l:Value),bindArgs (PySem.W.fnOf n n (ν st) (μ st) (δ st) .none kV c i k e j) ([o,m,l],[])=pure (agX [x,qual,name] [o,m,l]):=by intros;exact rfl):Df K mg n st [x,qual,name] f fd:=(d.F,d.F.binds (ps:=[x,qual,name]) λkV c i k e j g p=>RB (C:=λg=>bindArgs _ (g,[])=pure (agX ([x,qual,name]:List Str) g)) p (b kV c i k e j),PySem.W.mg_of X G d.a)
theorem Rx{C:List O->Prop}{a:List O}(f:a.length=4)(h:∀e d c b,C [e,d,c,b]):C a:=match a,f with | [_,_,_,_],_=>h _ _ _ _
theorem Vk{mg:Str->Option Value}{n g:Str}{st:Stmt}{f:Addr}{fd:FuncData}(X:K.In h')(G:h'.Ns mainGlobals mg)(d:FI K n st f fd)(b:∀(kV c j:Value) (l:Option Addr) (e k:Value) (q p o m:Value),bindArgs (PySem.W.fnOf n n (ν st) (μ st) (δ st) .none kV c j l e k) ([q,p,o,m],[])=pure (agX [x,qual,name,g] [q,p,o,m]):=by intros;exact rfl):Df K mg n st [x,qual,name,g] f fd:=(d.F,d.F.binds (ps:=[x,qual,name,g]) λkV c j l e k i r=>Rx (C:=λi=>bindArgs _ (i,[])=pure (agX ([x,qual,name,g]:List Str) i)) r (b kV c j l e k),PySem.W.mg_of X G d.a)
theorem Rw{C:List O->Prop}{a:List O}(g:a.length=5)(h:∀f e d c b,C [f,e,d,c,b]):C a:=match a,g with | [_,_,_,_,_],_=>h _ _ _ _ _
theorem YS{mg:Str->Option Value}{n i g:Str}{st:Stmt}{f:Addr}{fd:FuncData}(X:K.In h')(G:h'.Ns mainGlobals mg)(d:FI K n st f fd)(b:∀(kV c k:Value) (m:Option Addr) (e l:Value) (s r q p o:Value),bindArgs (PySem.W.fnOf n n (ν st) (μ st) (δ st) .none kV c k m e l) ([s,r,q,p,o],[])=pure (agX [x,qual,name,i,g] [s,r,q,p,o]):=by intros;exact rfl):Df K mg n st [x,qual,name,i,g] f fd:=(d.F,d.F.binds (ps:=[x,qual,name,i,g]) λkV c k m e l j t=>Rw (C:=λj=>bindArgs _ (j,[])=pure (agX ([x,qual,name,i,g]:List Str) j)) t (b kV c k m e l),PySem.W.mg_of X G d.a)
set_option genInjectivity false in
set_option genSizeOf false in
structure Ad where
 VH:Addr
 TJ:Addr
 VJ:Addr
 Tr:Addr
 VL:Addr
 UV:Addr
 afd:Addr
 aey:FuncData
 adk:Addr
 acJ:FuncData
 ad0:Addr
 adl:FuncData
 afe:Addr
 aez:FuncData
 aeA:Addr
 ad1:FuncData
 aeB:Addr
 ad2:FuncData
 afg:Addr
 aeC:FuncData
 aeD:Addr
 ad3:FuncData
 afh:Addr
 aeE:FuncData
 abv:Addr
 aaX:FuncData
 ab2:Addr
 abw:FuncData
 adm:Addr
 YT:FuncData
 aeF:Addr
 ad4:FuncData
 aeG:Addr
 ad5:FuncData
 adn:Addr
 acK:FuncData
 aaZ:Addr
 aaM:FuncData
 abx:Addr
 aa0:FuncData
 aa1:Addr
 aaN:FuncData
 aa2:Addr
 aaO:FuncData
 afu:Addr
 afi:FuncData
 ad6:Addr
 ado:FuncData
 ad7:Addr
 adp:FuncData
 ab3:Addr
 aby:FuncData
 afj:Addr
 aeH:FuncData
 aeI:Addr
 ad8:FuncData
 acL:Addr
 ab4:FuncData
 adq:Addr
 acM:FuncData
 adt:Addr
 acN:FuncData
 aaE:Addr
 aay:FuncData
 aeJ:Addr
 ad9:FuncData
 aaP:Addr
 aaF:FuncData
 aa3:Addr
 aaQ:FuncData
 afk:Addr
 aeK:FuncData
 aeL:Addr
 aea:FuncData
 abz:Addr
 aa4:FuncData
 acO:Addr
 ab5:FuncData
 ab6:Addr
 abA:FuncData
 adu:Addr
 YW:FuncData
 afl:Addr
 aeM:FuncData
 acP:Addr
 ab7:FuncData
 abB:Addr
 aa6:FuncData
 abC:Addr
 aa7:FuncData
 adw:Addr
 acQ:FuncData
 aa8:Addr
 aaR:FuncData
 ab8:Addr
 abD:FuncData
 aa9:Addr
 aaS:FuncData
 aeN:Addr
 aeb:FuncData
 aeO:Addr
 aec:FuncData
 abE:Addr
 aba:FuncData
 ab9:Addr
 abF:FuncData
 adx:Addr
 acR:FuncData
 aca:Addr
 abG:FuncData
 acS:Addr
 acb:FuncData
 acd:Addr
 abH:FuncData
 ace:Addr
 abI:FuncData
 acT:Addr
 acf:FuncData
 afm:Addr
 aeP:FuncData
 ady:Addr
 acU:FuncData
 acg:Addr
 abJ:FuncData
 abK:Addr
 abb:FuncData
 aeQ:Addr
 aed:FuncData
 acV:Addr
 ach:FuncData
 acW:Addr
 aci:FuncData
 aeR:Addr
 aee:FuncData
 aef:Addr
 adz:FuncData
 aeg:Addr
 adA:FuncData
 acX:Addr
 acj:FuncData
 ack:Addr
 abL:FuncData
 abd:Addr
 aaT:FuncData
 aeh:Addr
 adB:FuncData
 acY:Addr
 acl:FuncData
 aaU:Addr
 aaG:FuncData
 adC:Addr
 acZ:FuncData
 ac0:Addr
 acn:FuncData
 aeS:Addr
 aei:FuncData
 aeT:Addr
 aej:FuncData
 adD:Addr
 ac1:FuncData
 adE:Addr
 ac2:FuncData
 aek:Addr
 adF:FuncData
 adG:Addr
 ac3:FuncData
 ael:Addr
 adH:FuncData
 aem:Addr
 YX:FuncData
 adI:Addr
 ac4:FuncData
 adJ:Addr
 ac5:FuncData
 afK:Addr
 afz:FuncData
 t_BLOCK_BITS:Tok
 t_LETTERS:Tok
 t_MOST_BITS:Tok
 t_MOST_LETTERS:Tok
 t_MOST_NODES:Tok
 t_MOST_NUMBERS:Tok
 t_MOST_SIGNS:Tok
 TX:Addr
structure Tx(K:PySem.W.Frag)(mg:Str->Option Value)(a:Ad):Prop where
 afn:Df K mg "packed" uG ["bits"] a.afd a.aey
 YZ:Df K mg "check_row" lZ ["bits"] a.adk a.acJ
 aen:Df K mg "block_of" nJ ["bits"] a.ad0 a.adl
 XQ:Df K mg "bit_in" u0 ["block","k"] a.afe a.aez
 XR:Df K mg "bits_of" qw ["block","upto"] a.aeA a.ad1
 Y0:Df K mg "ones_in" rJ ["block","upto"] a.aeB a.ad2
 afo:Df K mg "one_in" vK ["block","nth"] a.afg a.aeC
 XS:Df K mg "nets_of" qy ["block","upto"] a.aeD a.ad3
 afp:Df K mg "low_in" uB ["block","upto"] a.afh a.aeE
 abM:Df K mg "first_low_in" jd ["block","start","stop","goal"] a.abv a.aaX
 acq:Df K mg "last_low_in" jC ["block","start","stop","goal"] a.ab2 a.abw
 Y4:Df K mg "look_from" cF ["look","first"] a.adm a.YT
 aeU:Df K mg "heap_of" rC ["numbers"] a.aeF a.ad4
 Wq:Df K mg "size_of" qZ ["many"] a.aeG a.ad5
 adL:Df K mg "lesser_of" lB ["one","other"] a.adn a.acK
 abe:Df K mg "first_at_most" gH ["many","look","start","goal"] a.aaZ a.aaM
 abN:Df K mg "last_at_most" iK ["many","look","stop","goal"] a.abx a.aa0
 Y5:Df K mg "place_beneath" gQ ["size","look","node","goal","side"] a.aa1 a.aaN
 abf:Df K mg "check_stretch" gG ["many","start","stop"] a.aa2 a.aaO
 Y6:Df K mg "cover" zR ["many","start","stop"] a.afu a.afi
 XX:Df K mg "kept_row" nT ["bits"] a.ad6 a.ado
 aeo:Df K mg "ahead_of" n8 ["blocks"] a.ad7 a.adp
 Wr:Df K mg "check_place" jn ["at","most"] a.ab3 a.aby
 Ws:Df K mg "bit_at" uX ["tables","look","at"] a.afj a.aeH
 Wt:Df K mg "ones_at" qJ ["tables","look","at"] a.aeI a.ad8
 ac6:Df K mg "noughts_at" jZ ["tables","look","at"] a.acL a.ab4
 adM:Df K mg "one_place" my ["tables","look","nth"] a.adq a.acM
 adN:Df K mg "check_nth" mj ["nth","many"] a.adt a.acN
 aaJ:Df K mg "last_no_greater" fc ["numbers","goal"] a.aaE a.aay
 aeV:Df K mg "is_tree" q8 ["bits"] a.aeJ a.ad9
 aaV:Df K mg "check_brackets" fQ ["bits"] a.aaP a.aaF
 abg:Df K mg "kept_brackets" gJ ["bits"] a.aa3 a.aaQ
 afq:Df K mg "low_of" vB ["tables","number","block"] a.afk a.aeK
 X3:Df K mg "base_of" qR ["tables","number"] a.aeL a.aea
 abO:Df K mg "start_within" iB ["number","at"] a.abz a.aa4
 X4:Df K mg "end_within" jW ["number","upto"] a.acO a.ab5
 Y7:Df K mg "block_count" jm ["tables"] a.ab6 a.abA
 Y8:Df K mg "heap_look" cz ["tables"] a.adu a.YW
 Y9:Df K mg "height" uP ["tables","look","at"] a.afl a.aeM
 ac7:Df K mg "low_behind" kh ["tables","look","at","goal"] a.acP a.ab7
 Za:Df K mg "first_within" iJ ["tables","look","number","at","goal"] a.abB a.aa6
 Zb:Df K mg "place_of_bit" iT ["number","within"] a.abC a.aa7
 adO:Df K mg "low_ahead" lQ ["tables","look","at","goal"] a.adw a.acQ
 abh:Df K mg "last_low_upto" gO ["tables","look","upto","goal"] a.aa8 a.aaR
 Zc:Df K mg "last_within" jB ["tables","look","number","upto","goal"] a.ab8 a.abD
 Zd:Df K mg "check_bracket" gD ["tables","look","at","bit"] a.aa9 a.aaS
 aeW:Df K mg "closing" qY ["tables","look","at"] a.aeN a.aeb
 aeX:Df K mg "opening" rG ["tables","look","at"] a.aeO a.aec
 abP:Df K mg "check_depths" iy ["depths"] a.abE a.aba
 acs:Df K mg "brackets_of" jq ["depths"] a.ab9 a.abF
 adP:Df K mg "kept_tree" lE ["depths"] a.adx a.acR
 acu:Df K mg "check_signs" jt ["signs"] a.aca a.abG
 ac8:Df K mg "kept_signs" j4 ["signs"] a.acS a.acb
 acv:Df K mg "ranks_among" jy ["kinds","signs"] a.acd a.abH
 acw:Df K mg "level_count" jz ["kind_count"] a.ace a.abI
 ac9:Df K mg "level_rows" j6 ["ranks","kind_count"] a.acT a.acf
 afr:Df K mg "parted" vo ["order","bits"] a.afm a.aeP
 adQ:Df K mg "levels_of" lX ["tables","look"] a.ady a.acU
 acx:Df K mg "place_below" ju ["level","at","bit"] a.acg a.abJ
 abQ:Df K mg "nought_count" iZ ["row"] a.abK a.abb
 aeY:Df K mg "sign_at" qx ["tables","look","at"] a.aeQ a.aed
 ada:Df K mg "node_count" jV ["tables"] a.acV a.ach
 adb:Df K mg "check_node" jX ["tables","node"] a.acW a.aci
 aeZ:Df K mg "node_at" qb ["tables","look","at"] a.aeR a.aee
 Ze:Df K mg "place_of" n6 ["tables","look","node"] a.aef a.adz
 aep:Df K mg "first_of" nZ ["tables","look","node"] a.aeg a.adA
 adc:Df K mg "younger_of" j5 ["tables","look","node"] a.acX a.acj
 acy:Df K mg "check_words" jl ["words"] a.ack a.abL
 abi:Df K mg "beginnings_of" gA ["words"] a.abd a.aaT
 aeq:Df K mg "parts_of" oh ["words"] a.aeh a.adB
 ade:Df K mg "kept_store" j9 ["words"] a.acY a.acl
 aaW:Df K mg "blocks_of_tree" fK ["tables"] a.aaU a.aaG
 Zf:Df K mg "letter_of" lV ["tables","look","node"] a.adC a.acZ
 adf:Df K mg "young_from" jO ["tables","look","node","letter"] a.ac0 a.acn
 ae0:Df K mg "line_of" qT ["tables","look","text"] a.aeS a.aei
 ae1:Df K mg "node_of" rK ["tables","look","text"] a.aeT a.aej
 Zg:Df K mg "_law_whole" lY ["_law_found"] a.adD a.ac1
 Vt:Df K mg "_law_spelt" lO ["_law_number","_law_kinds","_law_first","_law_many"] a.adE a.ac2
 aer:Df K mg "_law_word" ou ["_law_cell","_law_words_here"] a.aek a.adF
 adR:Df K mg "_law_words" lw ["_law_script"] a.adG a.ac3
 aes:Df K mg "_law_text" nF ["_law_cell","_law_words_here"] a.ael a.adH
 aet:Df K mg "_law_look" cQ ["_law_blocks","_law_seen"] a.aem a.YX
 adS:Df K mg "_law_there" lG ["_law_seen","_law_size"] a.adI a.ac4
 adT:Df K mg "_law_texts" lz ["_law_words_here"] a.adJ a.ac5
 afO:Df K mg "law" Kw ["_law_script"] a.afK a.afz
 afL:mg "bool" = none
 Wu:mg "enumerate" = none
 afP:mg "int" = none
 adg:mg "isinstance" = none
 Th:mg "len" = none
 W6:mg "list" = none
 afQ:mg "max" = none
 Zh:mg "min" = none
 Wb:mg "range" = none
 Zi:mg "reversed" = none
 Zj:mg "set" = none
 Zk:mg "sorted" = none
 afR:mg "sum" = none
 X5:mg "tuple" = none
 Zm:mg "zip" = none
 Uj:mg "BLOCK_BITS" = some (.int 32 a.t_BLOCK_BITS)
 Zn:mg "LETTERS" = some (.str "abcdefghijklmnopqrstuvwxyz" a.t_LETTERS)
 ae6:mg "MOST_BITS" = some (.int 4096 a.t_MOST_BITS)
 adY:mg "MOST_LETTERS" = some (.int 40 a.t_MOST_LETTERS)
 ae3:mg "MOST_NODES" = some (.int 2048 a.t_MOST_NODES)
 adZ:mg "MOST_NUMBERS" = some (.int 4096 a.t_MOST_NUMBERS)
 ae4:mg "MOST_SIGNS" = some (.int 4096 a.t_MOST_SIGNS)
 afM:mg "NoNode" = some (.ref a.TX)
 afy:Exc K mg "NoNode" a.TX
 afN:Sg K a.TX
 X6:PySem.W.kitOne K (.ref a.TX) (.ref a.TX)=some true
 X7:PySem.W.kitOne K (.ref a.TX) (.type "ValueError")=some true
 ae7:a.YT.code=.ref a.VH
 ae8:a.YW.code=.ref a.VJ
 afs:a.YX.code=.ref a.VL
structure Bs(mg:Str->Option Value)(base:Heap)(a:Ad):Prop where
 bm:BMain mg base
 ae9:PySem.W.CodeHd base a.VH a.TJ
 afa:PySem.W.CodeHd base a.VJ a.Tr
 aft:PySem.W.CodeHd base a.VL a.UV
 abj:a.TJ≠a.Tr
 aat:a.TJ≠a.UV
 aau:a.Tr≠a.UV
theorem CV(a:List (Key×V))(k:Key)(v:V):(putK a k v).length<=a.length+1:=by
 cases h:fO a k with
 | none=>rw[Dg v h,aaf];exact aac _
 | some x =>
  unfold putK;rw[gh,h];simp
theorem iH.out{f b:Addr}{c:vD}{cs:List Addr}{Tc:List V}{xs:List V}(h:iH H f c cs Tc)(e:H b=some (.lst xs)):b∉cs:=λz=>by
 obtain⟨i,d⟩:=abk z;obtain⟨g,v,u,_,a,_⟩:=h.cells i b d;rw[e]at a;cases a
theorem TabAt.same{H':Hp}{P:Addr}{pos:Pos}{q:Str}(h:TabAt H P pos q)(s:aO H H'):TabAt H' P pos q:=by
 obtain⟨c,j,i,a⟩:=h;exists c,s _ _ j,i;rcases a with a|⟨k,d,b,t,g,f,e⟩
 ·exact .inl a
 ·exact .inr (k,d,b,t,g,s _ _ f,e)
def vG(P:Addr)(H H':Hp):Prop:=∀b o,H b=some o->b≠P->H' b=some o
theorem TabAt.ex{P:Addr}{pos:Pos}{q:Str}(h:TabAt H P pos q):∃o,H P=some o:=by
 obtain⟨b,a,_⟩:=h;exact(_,a)
theorem TabAt.ne{P b:Addr}{pos:Pos}{q:Str}{o:HO}(h:TabAt H P pos q)(e:H b=some o)(n:∀ps,o ≠ .Tf ps):b≠P:=λz=>by
 obtain⟨ps,a,_⟩:=h;rw[z,a]at e;cases e;exact n _ rfl
theorem TabAt.upd{H:Hp}{P x:Addr}{pos:Pos}{q:Str}{xs ys:List V}(h:TabAt H P pos q)(e:H x=some (.lst xs)):TabAt (L2.upd H x (.lst ys)) P pos q:=by
 obtain⟨i,r,p,a⟩:=h;have d:∀b o,H b=some o->(∀f,o ≠ .lst f)->L2.upd H x (.lst ys) b=some o:=λb o c n=>by
  rw[aH (λz=>by rw[z,e]at c;cases c;exact n _ rfl)];exact c
 exists i,d _ _ r nofun,p;rcases a with a|⟨s,j,g,t,m,l,k⟩
 ·exact .inl a
 ·exact .inr (s,j,g,t,m,d _ _ l nofun,k)
theorem Oj{n j:Nat}(h:j<n):U5 n (j:Int)=some j:=by
 unfold U5;simp;lia
theorem Gy(k:Nat)(v:Int):(aaB k [V.int v]).flatten=(aaB k v).map V.int:=by
 induction k with
 | zero=>rfl
 | succ k a=>rw[afB,afZ,a,afB];rfl
structure LK where
 f:Addr
 wr:Option Addr
 bl:Addr
 off:Nat
 all:List V
def LK.put(L:LK)(H:Hp)(a:List Int):Hp:=match L.wr with
 | some b=>upd H b (.lst (a.map V.int))
 | none=>H
theorem Ju{cs:List Addr}{b:Addr}{o:HO}(h:hide H cs b=some o):b∉cs/\H b=some o:=by
 by_cases z:b∈cs
 ·rw[mW z]at h;cases h
 ·rw[bx z]at h;exact(z,h)
def Uk(H:Hp)(L:LK):Prop:=L.off=0 /\ ∃(a:Addr) (b:List Addr),L.wr=some a/\iH H L.f bU b [.ref a,.ref L.bl]
inductive Vl(R:Hp->LK->Prop)(H:Hp)(L:LK):Prop
 | mk (g:Addr) (o:Nat) (cs:List Addr) (_:o<=L.off) (_:eO H L.f aQ cs [.ref g,.int (o:Int)]) (_:R (hide H cs) (g,L.wr,L.bl,L.off - o,L.all))
def Keeps(R:Hp->LK->Prop):Prop:=∀(H a:Hp) (L:LK),R H L->(∀b o,H b=some (aM b o)->a b=some (aM b o))->R a L
theorem Uk.keeps:Keeps Uk:=λH f L h s=>by
 obtain⟨c,a,d,b,e⟩:=h;exact(c,a,d,b,e.same s)
theorem Vl.keeps{R:Hp->LK->Prop}(k:Keeps R):Keeps (Vl R):=λH i L h s=>by
 obtain⟨g,o,f,c,a,d⟩:=h;refine(g,o,f,c,a.same s,k _ _ _ d λb u e=>?_);obtain⟨z,e⟩:=Ju e;rw[bx z];exact s b u e
theorem Keeps.hid{R:Hp->LK->Prop}(k:Keeps R){H':Hp}{L:LK}{cs:List Addr}(h:R H L)(f:∀b∈cs,H b=none)(s:∀b o,H b=some (aM b o)->H' b=some (aM b o)):R (hide H' cs) L:=k _ _ _ h λb o e=>by
 rw[bx λz=>by rw[f b z]at e;cases e];exact s b o e
def Ul:Hp->LK->Prop:=Vl Uk
def VM:Hp->LK->Prop:=Vl Ul
theorem Ul.keeps:Keeps Ul:=Vl.keeps Uk.keeps
theorem VM.keeps:Keeps VM:=Vl.keeps Ul.keeps
def HasFn(R:Hp->LK->Prop):Prop:=∀(H:Hp) (L:LK),R H L->(∃o b,H L.f=some (aM L.f o)/\o.data=.func b) /\ ∃a,L.wr=some a
theorem Uk.hasFn:HasFn Uk:=λH L h=>by
 obtain⟨_,a,k,b,d⟩:=h;obtain⟨l,e,i,f,j,g,t,c,_⟩:=d.ex;exact((_,_,c,rfl),a,b)
theorem Vl.hasFn{R:Hp->LK->Prop}(k:HasFn R):HasFn (Vl R):=λH L h=>by
 obtain⟨g,o,j,_,c,a⟩:=h;obtain⟨l,f,d,i,e,t,b,_⟩:=c.ex;exact((_,_,b,rfl),(k _ _ a).2)
theorem Ul.hasFn:HasFn Ul:=Vl.hasFn Uk.hasFn
theorem VM.hasFn:HasFn VM:=Vl.hasFn Ul.hasFn
def gU(H:Hp)(L:LK):Prop:=Uk H L\/Ul H L\/VM H L
theorem gU.both{L:LK}(h:gU H L):(∃o fd,H L.f=some (aM L.f o)/\o.data=.func fd) /\ ∃sn,L.wr=some sn:=by
 rcases h with h|h|h
 ·exact Uk.hasFn _ _ h
 ·exact Ul.hasFn _ _ h
 ·exact VM.hasFn _ _ h
theorem gU.fn{L:LK}(h:gU H L):∃o fd,H L.f=some (aM L.f o)/\o.data=.func fd:=h.both.1
theorem gU.kept{H':Hp}{L:LK}(h:gU H L)(s:∀b o,H b=some o->(∀ps,o ≠ .Tf ps)->(∀ps,o ≠ .lst ps)->H' b=some o):gU H' L:=by
 rcases h with h|h|h
 ·exact .inl (Uk.keeps _ _ _ h λb o e=>s _ _ e nofun nofun)
 ·exact .inr (.inl (Ul.keeps _ _ _ h λb o e=>s _ _ e nofun nofun))
 ·exact .inr (.inr (VM.keeps _ _ _ h λb o e=>s _ _ e nofun nofun))
theorem gU.same{H':Hp}{L:LK}(h:gU H L)(s:aO H H'):gU H' L:=h.kept λb o e _ _=>s _ _ e
theorem gU.upd{L:LK}{b:Addr}{xs ys:List V}(h:gU H L)(e:H b=some (.lst xs)):gU (L2.upd H b (.lst ys)) L:=h.kept λc o a _ n=>by
 rw[aH (λz=>by rw[z,e]at a;cases a;exact n _ rfl)];exact a
structure Asks(H:Hp)(L:LK)(ss:List Int):Prop where
 look:gU H L
 seen:∀sn,L.wr=some sn->H sn=some (.lst (ss.map V.int))/\sn≠L.bl
 nodes:H L.bl=some (.lst L.all)
 few:ss.length<=1000000
theorem Asks.same{H H':Hp}{L:LK}{a:List Int}(h:Asks H L a)(s:aO H H'):Asks H' L a:=(h.look.same s,λb e=>(s _ _ (h.seen b e).1,(h.seen b e).2),s _ _ h.nodes,h.few)
theorem LK.put_none{L:LK}(e:L.wr=none)(H:Hp)(a:List Int):L.put H a=H:=by unfold LK.put;rw[e]
theorem LK.put_some{L:LK}{sn:Addr}(e:L.wr=some sn)(H:Hp)(a:List Int):L.put H a=upd H sn (.lst (a.map V.int)):=by unfold LK.put;rw[e]
theorem LK.put_ne{L:LK}{b:Addr}(n:L.wr≠some b)(H:Hp)(a:List Int):L.put H a b=H b:=by
 cases e:L.wr with
 | none=>rw[LK.put_none e]
 | some c=>rw[LK.put_some e,aH (λz=>n (by rw[e,z]))]
theorem Asks.id{L:LK}(h:Asks H L d):L.put H d=H:=by
 cases e:L.wr with
 | none=>rw[LK.put_none e]
 | some a=>rw[LK.put_some e];exact QG (h.seen a e).1
theorem Asks.putN{L:LK}{tt:List Int}{b:Addr}{o:HO}(h:Asks H L d)(e:H b=some o)(n:∀xs,o ≠ .lst xs):L.put H tt b=some o:=by
 rw[LK.put_ne (λz=>?_)]
 ·exact e
 ·rw[(h.seen b z).1]at e;cases e;exact n _ rfl
theorem Asks.putT{L:LK}{tt:List Int}{b:Addr}{xs:List V}(h:Asks H L d)(e:H b=some (.tup xs)):L.put H tt b=some (.tup xs):=h.putN e nofun
theorem Asks.put{L:LK}{tt:List Int}(h:Asks H L d)(b:tt.length<=1000000):Asks (L.put H tt) L tt:=by
 cases e:L.wr with
 | none =>
  rw[LK.put_none e];exact(h.look,λa z=>(by rw[e]at z;cases z),h.nodes,b)
 | some a =>
  obtain⟨f,c⟩:=h.seen a e;rw[LK.put_some e];refine(h.look.upd f,λg z=>?_,by rw[aH (ae2 c)];exact h.nodes,b);rw[e]at z;cases z;exact(au,c)
theorem Asks.more{L:LK}{tt:List Int}(h:Asks H L d)(a:tt.length<=1000000):Asks (L.put H tt) L tt:=h.put a
inductive N5(f:Addr)(vs:List V)(H:Hp)(Q:VK)(_e1:XK):Prop
 | mk (L:LK) (ss:List Int) (n:Nat) (x:V) (_:f=L.f) (_:vs=[.int (n:Int)]) (_:Asks H L ss) (_:ss.length<1000000) (_:L.all[L.off+n]?=some x) (_:Q x (L.put H (ss++[((L.off+n:Nat):Int)])))
section
variable{P:Program}{a:Ad}
theorem JZ(x:Int):Builtin.bitAnd x 1=x%2:=by
 unfold Builtin.bitAnd;by_cases b:0<=x
 ·simp[b];lia
 ·simp[b];unfold Builtin.bitNot;lia
inductive HW(vs:List V)(H:Hp)(Q:VK)(_e1:XK):Prop
 | mk (b k:Int) (_:vs=[.int b,.int k]) (_:0<=k) (_:Q (.int (bit b k.toNat)) H)
theorem qD(T:Tx K mg a):aV P w K mg base S6 1 a.afe a.aez ["block","k"] HW:=by
 refine T.XQ.F.S9 Ji λf A c s H g Q E i h=>?_;obtain⟨b,k,rfl,d,q⟩:=h;exists _,(aq (aD (aB Qz (aB QD (pv 0) (pv 1)) ao)));exists _,rfl,_,rfl,_,_,rfl,rfl,d,_,_,rfl,rfl;have e:Builtin.bitAnd (b / 2^k.toNat) 1=bit b k.toNat:=JZ _;show Q (.int (Builtin.bitAnd (b / 2^k.toNat) 1)) H;rw[e];exact q
inductive Ew(vs:List V)(H:Hp)(Q:VK)(_e1:XK):Prop
 | mk (b n:Int) (_:vs=[.int b,.int n]) (_:0<=n) (_:n<=32) (_:∀r,H r=none->Q (.ref r) (upd H r (.lst ((bits b n.toNat).map V.int))))
theorem nH(T:Tx K mg a):aV P w K mg base S6 2 a.aeA a.ad1 ["block","upto"] Ew:=by
 refine T.XR.F.S9 FJ λf A c s H g Q E d h=>?_;obtain⟨b,n,rfl,m,l,q⟩:=h;exists _,(aq (aD (oR rfl (cH.one (j:=0) rfl (agG rfl) rfl rfl (agG rfl)) (qU rfl T.Wb (aa (pv 1) ak)) (λ_ _ _ _=>fU) (λ_ _ _ _=>(aF T.XQ (qD T) d (aa (pv 1) (aa (pv 0) ak)))))));refine(_,rfl,n,rfl,by lia,by lia,?_);refine Hi (λj=>bit b j) (by rw[sizeLine_eq];lia) (λ_ _ _ q=>q) (λj o Q k i q=>(_,rfl,_,rfl,_,_,rfl,by lia,?_)) λD e=>q D e;rw[show ((0:Int)+(j:Int)).toNat=j from by lia];exact q
inductive Di(vs:List V)(H:Hp)(Q:VK)(_e1:XK):Prop
 | mk (b n:Int) (_:vs=[.int b,.int n]) (_:0<=n) (_:n<=32) (_:∀H',aO H H'->Q (.int (ones b n.toNat)) H')
theorem vh(T:Tx K mg a):aV P w K mg base S6 3 a.aeB a.ad2 ["block","upto"] Di:=by
 refine T.Y0.F.S9 El λi A d s H j Q E e h=>?_;obtain⟨b,n,rfl,g,f,q⟩:=h;exists _,(aq (aD (aK (Lk rfl) rfl T.afR Tw.Qp (aa (aF T.XR (nH T) e (aa (pv 0) (aa (pv 1) ak))) ak))));exact(_,rfl,_,rfl,b,n,rfl,g,f,λr c=>(r,bits b n.toNat,rfl,My.of au,q _ (az c _)))
inductive Ib(vs:List V)(H:Hp)(Q:VK)(_e1:XK):Prop
 | mk (b t:Int) (_:vs=[.int b,.int t]) (_:(∀H',aO H H' -> ∀k:Nat,k<32->bit b k=1->ones b k=t->Q (.int (k:Int)) H')) (_:∀H',aO H H'->(∀k:Nat,k<32 -> ¬(bit b k=1/\ones b k=t))->Q .non H')
theorem HS(T:Tx K mg a):aV P w K mg base S6 3 a.afg a.aeC ["block","nth"] Ib:=by
 refine T.afo.F.S9 jK λU A G s H W Q E N h=>?_;obtain⟨b,t,rfl,M,L⟩:=h;refine(_,(aj (aA 2 jK.nd ao)
  (aj (bI PassesOwn.never rfl (uh rfl T.Wu (aa (aF T.XR (nH T) N (aa (pv 0) (aa (bG (v:=.int 32) rfl T.Uj (_,rfl)) ak))) ak)) (lr rfl (bV (aR 3 jK.nd) (bV (aR 4 jK.nd) ji))) (aj (aX (PW.pt (gw (aG cT (pv 4) ao) (fZ (aG cT (pv 2) (pv 1))))) (aq (aD (pv 3))) aL)
  (aq (aA 2 jK.nd (aB bc (pv 2) (pv 4))))))
  (aq (aD dY)))),?_)
 refine(_,rfl,b,32,rfl,by decide,by decide,λr m=>(r,_,rfl,My.of au,?_));refine vI (xs:=(bits b 32).map V.int) (λi n e=>(∃k o,n=[some (.int b),some (.int t),some (.int (ones b i)),k,o])/\aO (upd H r (.lst ((bits b 32).map V.int))) e /\ ∀j:Nat,j<i -> ¬(bit b j=1/\ones b j=t)) ?_ ?_ ?_ ?_
 ·exact((none,none,rfl),aO.refl _,λj I=>absurd I (agl _))
 ·rintro i n e y ⟨_,f,_⟩;exact My.of (f _ _ au)
 ·rintro i x n e p u ⟨⟨k,o,rfl⟩,f,q⟩ O;have y:i<32:=by
   have:=(aab.mp u).1;rw[aaa,gq]at this;exact this
  have S:x=.int (bit b i):=by
   rw[aah,uz y]at u;exact(aap u).symm
  subst S;have g:aO (upd H r (.lst ((bits b 32).map V.int))) (upd e p (.tup [.int (i:Int),.int (bit b i)])):=f.trans (az O _);have D:=(az m (.lst ((bits b 32).map V.int))).trans g;have next:(∀j:Nat,j<i+1 -> ¬(bit b j=1/\ones b j=t)) ↔ ¬(bit b i=1/\ones b i=t):=by
   refine(λh=>h i (agf _),λh j I=>?_);rcases aas j i with l|l
   ·exact q j l
   ·have:j=i:=by lia
    subst this;exact h
  have J:¬(bit b i=1/\ones b i=t)->(∃k o,[some (V.int b),some (V.int t),some (V.int (ones b i+bit b i)),some (V.int (i:Int)),some (V.int (bit b i))]=[some (.int b),some (.int t),some (.int (ones b (i+1))),k,o]) /\
    aO (upd H r (.lst ((bits b 32).map V.int))) (upd e p (.tup [.int (i:Int),.int (bit b i)])) /\ ∀j:Nat,j<i+1 -> ¬(bit b j=1/\ones b j=t):=λh =>
   ((_,_,by rw[iw]),g,next.mpr h)
  exists p,_,rfl,S7.of au,rfl,_,_,rfl,_,_,rfl,rfl;exists _,rfl,rfl,_,rfl;refine bC (λc=>?_) (λc=>?_)
  ·have C:V.int (bit b i)=V.int 1:=of_decide_eq_true c;exists _,rfl,_,rfl,rfl,_,rfl;refine bC (λd=>?_) (λd=>?_)
   ·have B:V.int (ones b i)=V.int t:=of_decide_eq_true d;exact(_,rfl,M _ D i y (V.int.inj C) (V.int.inj B))
   ·have B:¬V.int (ones b i)=V.int t:=λz=>d (decide_eq_true z);exact(_,rfl,_,rfl,_,_,rfl,rfl,J λz=>B (congrArg V.int z.2))
  ·have C:¬V.int (bit b i)=V.int 1:=λz=>c (decide_eq_true z);exact dN (_,rfl,_,rfl,_,_,rfl,rfl,J λz=>C (congrArg V.int z.1))
 ·rintro n e ⟨_,f,q⟩;refine L _ ((az m _).trans f) λk R=>q k ?_;rw[aaa,gq];exact R
inductive Bb(K:PySem.W.Frag)(vs:List V)(H:Hp)(Q:VK)(_e1:XK):Prop
 | mk (p:Addr) (ns:List Int) (_:vs=[.ref p]) (_:My K H p (ns.map V.int)) (_:Q (.int (blk ns)) H)
theorem Cw(T:Tx K mg a):aV P w K mg base S6 1 a.ad0 a.adl ["bits"] (Bb K):=by
 refine T.aen.F.S9 jh λt A g s H u Q E v h=>?_;obtain⟨p,b,rfl,l,q⟩:=h;refine(_,(aj (aA 1 jh.nd ao)
  (aj (bI PassesOwn.never rfl (J5 rfl T.Zi (aa (pv 0) ak) Tw.lD) (aR 2 jh.nd) (aq (aA 1 jh.nd (aB bc (aB cL ao (pv 1)) (pv 2)))))
  (aq (aD (pv 1))))),?_)
 exists _,rfl,p,_,rfl,l;refine G4 (xs:=b.map V.int) (λi d f=>(∃k,d=[some (.ref p),some (.int (blk (b.drop (b.length - i)))),k])/\f=H) ?_ ?_ ?_ ?_
 ·refine((none,?_),rfl);rw[agA,ahi];rfl
 ·rintro i d f _ ⟨_,rfl⟩;exact l
 ·rintro i x d f n m ⟨⟨k,rfl⟩,rfl⟩;obtain⟨c,j,rfl⟩:=int_at m;rw[aaa]at n j;refine(_,rfl,_,_,rfl,rfl,.inl (by decide,by decide),_,rfl,_,_,rfl,rfl,(some (.int c),?_),rfl);have e:b.drop (b.length - (i+1))=c::b.drop (b.length - i):=by
   have r:b.length - (i+1)=b.length - 1 - i:=by lia
   have o:b.length - i=b.length - 1 - i+1:=by lia
   rw[r,o,abV (by lia)];congr 1;have:=aab.mp j;exact this.2
  rw[e];rfl
 ·rintro d f ⟨⟨k,rfl⟩,rfl⟩;rw[aaa,ag0,agU];exact(_,rfl,q)
inductive KJ(vs:List V)(H:Hp)(Q:VK)(_e1:XK):Prop
 | mk (i:Int) (_:vs=[.int i]) (_:Q (.bl true) H)
theorem pG(T:Tx K mg a):aV P w K mg base S6 1 a.adD a.ac1 ["_law_found"] KJ:=by
 refine T.Zg.F.S9 zJ λc A b s H d Q E e h=>?_;obtain⟨i,rfl,q⟩:=h
 exists _,(aq (aD (Ka (aK Ac rfl T.adg Tw.m9 (aa (pv 0) (aa (Gu (v:=.ty "int") rfl T.afP Tw.PJ rfl) ak))) (JB (PN (aK Ac rfl T.adg Tw.m9 (aa (pv 0) (aa (Gu (v:=.ty "bool") rfl T.afL Tw.Oq rfl) ak))))))))
 refine(_,rfl,_,"int",_,true,rfl,.int i,rfl,true,rfl,jr ?_)
 exact(_,rfl,_,"bool",_,false,rfl,.int i,rfl,false,rfl,q)
inductive zX(K:PySem.W.Frag)(vs:List V)(H:Hp)(Q:VK)(_e1:XK):Prop
 | mk (p:Addr) (ns:List Int) (_:vs=[.ref p]) (_:My K H p (ns.map V.int)) (_:ns.length<=4096) (_:aZ ns) (_:Q .non H)
theorem pN(T:Tx K mg a):aV P w K mg base S6 1 a.adk a.acJ ["bits"] (zX K):=by
 refine T.YZ.F.S9 pX λn A f s H o Q E r h=>?_;obtain⟨p,g,rfl,e,t,m,q⟩:=h;refine(_,(aj (aX (aG jf (aK aN rfl T.Th Tw.bh (aa (pv 0) ak)) (bG (v:=.int 4096) rfl T.ae6 (_,rfl))) (aq bW) aL)
  (aq (bI PassesOwn.never rfl (bO (pv 0)) (aR 1 pX.nd) (aq (aX (PW.pt (gw (aG yf (pv 1) ao) (fZ (aG yf (pv 1) ao)))) (aq bW) aL))))),?_)
 refine(_,rfl,p,_,rfl,.inl e,_,_,rfl,rfl,_,rfl,bC (λc=>?_) λ_=>?_)
 ·have c:=of_decide_eq_true c;rw[aaa]at c;lia
 exists _,rfl,p,rfl,(_,e);refine b7 (xs:=g.map V.int) (λi b d=>(∃k,b=[some (.ref p),k])/\d=H) ((none,rfl),rfl) ?_ ?_ ?_
 ·rintro i b d _ ⟨_,rfl⟩;exact e
 ·rintro i x b d j ⟨⟨k,rfl⟩,rfl⟩;obtain⟨c,l,rfl⟩:=int_at j;rcases m c (aag l)with rfl|rfl
  ·exact(_,rfl,rfl,_,rfl,xV rfl (dN ((_,rfl),rfl)))
  ·refine(_,rfl,rfl,_,rfl,bC (λ_=>(_,rfl,rfl,_,rfl,xV rfl ((_,rfl),rfl))) λz=>absurd ?_ z);decide
 ·rintro b d ⟨_,rfl⟩;exact q
inductive Ip(K:PySem.W.Frag)(vs:List V)(H:Hp)(Q:VK)(_e1:XK):Prop
 | mk (p:Addr) (ns:List Int) (_:vs=[.ref p]) (_:My K H p (ns.map V.int)) (_:ns.length<=4096) (_:aZ ns) (_:∀r H',H r=none->aO H H'->H' r=some (.lst ((bD ns).map V.int))->Q (.ref r) H')
theorem Jt(T:Tx K mg a):aV P w K mg base S6 2 a.afd a.aey ["bits"] (Ip K):=by
 refine T.afn.F.S9 IK λG A r s H I Q E u h=>?_;obtain⟨p,b,rfl,n,x,B,q⟩:=h;refine(_,(aj (bu (aF T.YZ (pN T) u (aa (pv 0) ak)))
  (aq (aD (oR rfl (cH.one (j:=0) rfl (agG rfl) rfl rfl (agG rfl)) (Hc rfl T.Wb (aa ao (aa (aK aN rfl T.Th Tw.bh (aa (pv 0) ak)) (aa (bG (v:=.int 32) rfl T.Uj (_,rfl)) ak)))) (λ_ _ _ _=>fU) (λ_ _ _ _=>(aF T.aen (Cw T) u (aa (cC (show Xo _ (Rn K)from pP) (pv 1) (cO (pv 0)) (cO (aB bc (pv 0) (bG (v:=.int 32) rfl T.Uj (_,rfl))))) ak))))))),?_)
 exists _,rfl,p,b,rfl,n,x,B;exists _,rfl,p,_,rfl,.inl n,(b.map V.int).length,rfl,?_
 ·rw[aaa];exact agd x (by decide)
 rw[aaa];intro D o;exists λi m k g=>m=many b.length - i/\i<=many b.length/\k=((adU i).map (cB b)).map V.int/\aO H g/\g D=some (.lst k),(_,rfl,aaK _,rfl,az o _,au);rintro i m k g ⟨rfl,J,rfl,l,d⟩;by_cases c:i<many b.length
 ·refine .inr (c,λv M y=>?_);obtain⟨rfl,rfl⟩:=y;unfold Kl;refine jr ?_;refine(_,rfl,_,rfl,_,rfl,_,rfl,_,_,rfl,rfl,_,rfl,p,_,rfl,l.seq n,λt f=>?_);have C:(0:Int)+(i:Int)*32=((32*i:Nat):Int):=by lia
  have L:(0:Int)+(i:Int)*32+32=((32*i+32:Nat):Int):=by lia
  rw[C,show ((32*i:Nat):Int)+32=((32*i+32:Nat):Int)from by lia,Ng,af2];exists t,_,rfl,My.of au;have z:D≠t:=aJ d f;refine(by rw[aH z];exact d,?_,many b.length - (i+1),by lia,rfl,c,?_,bK (l.trans (az f _)) o _,au)
  ·rw[aaa,aaa,afT];unfold many at c;exact small (by lia)
  ·rw[af1,aal,aal];rfl
 ·have e:i=many b.length:=by lia
  subst e;exact .inl (aac _,q D g o l d)
inductive Bf(K:PySem.W.Frag)(vs:List V)(H:Hp)(Q:VK)(_e1:XK):Prop
 | mk (p:Addr) (bs:List Int) (_:vs=[.ref p]) (_:My K H p (bs.map V.int)) (_:bs.length<=4096) (_:∀r H',H r=none->aO H H'->H' r=some (.tup ((aheads bs bs.length).map V.int))->Q (.ref r) H')
theorem Ai(T:Tx K mg a):aV P w K mg base S6 4 a.ad7 a.adp ["blocks"] (Bf K):=by
 refine T.aeo.F.S9 mG λC A o s H D Q E B h=>?_;obtain⟨p,j,rfl,u,m,q⟩:=h;refine(_,(aj (aA 1 mG.nd (cX (aa ao ak)))
  (aj (bI PassesOwn.never rfl (bO (pv 0)) (aR 2 mG.nd) (aq (bu (gR PySem.F.plainAttrs_list PySem.F.slot_list_append PySem.F.type_list_append bZ (pv 1) (aa (aB bc (aW ig (pv 1) (lC jc ao)) (aF T.Y0 (vh T) B (aa (pv 2) (aa (bG (v:=.int 32) rfl T.Uj (_,rfl)) ak)))) ak)))))
  (aq (aD (cI gb rfl T.X5 Tw.oV (aa (pv 1) ak)))))),?_)
 refine((by show 1<=sizeLine;decide),λr d=>?_);exists _,rfl,p,rfl,(_,(az d _).seq u);refine b7 (xs:=j.map V.int) (λi g f=>(∃k,g=[some (.ref p),some (.ref r),k])/\aO H f/\f r=some (.lst ((aheads j i).map V.int))) ?_ ?_ ?_ ?_
 ·exact((none,rfl),az d _,au)
 ·rintro i g f _ ⟨_,e,_⟩;exact e.seq u
 ·rintro i x g f z ⟨⟨k,rfl⟩,e,c⟩;obtain⟨b,t,rfl⟩:=int_at z;have G:=(aab.mp t).1;have n:Tz ((aheads j i).map V.int) (-1)=some (.int (jA j i)):=by
   rw[Bm,aal];exact lA _ _
  refine(_,rfl,.inl (rfl,_,My.of c),_,rfl,_,rfl,r,_,_,_,rfl,rfl,My.of c,n,_,rfl,b,32,rfl,by decide,by decide,λI y=>(_,_,rfl,rfl,r,_,_,rfl,rfl,y _ _ c,?_,(_,rfl),bK (e.trans y) d _,?_))
  ·rw[aaa,wJ];exact small (by lia)
  ·rw[au,Bp,aal,rT t];rfl
 ·rintro g f ⟨⟨k,rfl⟩,e,c⟩;rw[aaa]at c;exact(_,rfl,r,_,rfl,.inl (My.of c,λl m=>q l _ (e.free m) (e.trans (az m _)) au))
inductive Em(vs:List V)(H:Hp)(Q:VK)(_e1:XK):Prop
 | mk (b n:Int) (_:vs=[.int b,.int n]) (_:0<=n) (_:n<=32) (_:∀r H',H r=none->aO H H'->H' r=some (.lst ((nets b n.toNat).map V.int))->Q (.ref r) H')
theorem nU(T:Tx K mg a):aV P w K mg base S6 3 a.aeD a.ad3 ["block","upto"] Em:=by
 refine T.XS.F.S9 iI λI A t s H J Q E z h=>?_;obtain⟨b,n,rfl,D,C,q⟩:=h;refine(_,(aj (aA 2 iI.nd (cX ak))
  (aj (aA 3 iI.nd ao)
  (aj (bI PassesOwn.never rfl (bO (aF T.XR (nH T) z (aa (pv 0) (aa (pv 1) ak)))) (aR 4 iI.nd) (aj (aA 3 iI.nd (aB bz (aB bc (pv 3) (aB cL ao (pv 4))) ao))
  (aq (bu (gR PySem.F.plainAttrs_list PySem.F.slot_list_append PySem.F.type_list_append bZ (pv 2) (aa (pv 3) ak))))))
  (aq (aD (pv 2)))))),?_)
 refine((by show 0<=sizeLine;decide),λr f=>?_);refine(_,rfl,_,rfl,b,n,rfl,D,C,λp v=>(p,rfl,(_,My.of au),?_));have u:r≠p:=aJ au v;refine b7 (xs:=(bits b n.toNat).map V.int) (λi j e=>(∃k,j=[some (.int b),some (.int n),some (.ref r),some (.int (net b i)),k])/\aO H e/\e r=some (.lst ((nets b i).map V.int))/\e p=some (.lst ((bits b n.toNat).map V.int))) ?_ ?_ ?_ ?_
 ·refine((none,by rw[J8];rfl),(az f _).trans (az v _),?_,au);rw[aH u,au];rfl
 ·rintro i j e _ ⟨_,_,_,o⟩;exact My.of o
 ·rintro i x j e y ⟨⟨k,rfl⟩,l,d,g⟩;obtain⟨c,m,rfl⟩:=int_at y;have B:i<n.toNat:=by
   have:=(aab.mp m).1;rw[gq]at this;exact this
  have G:c=bit b i:=by
   rw[uz B]at m;exact(aap m).symm
  subst G;exists _,rfl,_,rfl,_,_,rfl,rfl,.inl (by decide,by decide),_,_,rfl,rfl,_,_,rfl,rfl;exists _,rfl,.inl (rfl,_,My.of d),_,rfl,r,_,_,rfl,rfl,d,?_
  ·rw[aaa,eQ];exact small (by lia)
  ·exists (some (.int (bit b i)),by rw[Ab];rfl),bK l f _,?_
   ·rw[au,HY,Ab,aal];rfl
   ·rw[aH (ae2 u)];exact g
 ·rintro j e ⟨⟨k,rfl⟩,l,d,g⟩;rw[aaa,gq]at d;exact(_,rfl,q r e f l d)
inductive Il(vs:List V)(H:Hp)(Q:VK)(_e1:XK):Prop
 | mk (b n:Int) (_:vs=[.int b,.int n]) (_:1<=n) (_:n<=32) (_:∀M H',Ln M (nets b n.toNat)->aO H H'->Q (.int M) H')
theorem Iz(T:Tx K mg a):aV P w K mg base S6 4 a.afh a.aeE ["block","upto"] Il:=by
 refine T.afp.F.S9 Jh λk A c s H l Q E e h=>?_;obtain⟨b,n,rfl,o,g,q⟩:=h;exists _,(aq (aD (Mm rfl rfl T.Zh (aa (aF T.XS (nU T) e (aa (pv 0) (aa (pv 1) ak))) ak) ao Tw.Fl)));refine(_,rfl,_,rfl,b,n,rfl,by lia,g,λp j m d i=>(p,_,rfl,My.of i,?_,λM f=>q M j f d));rw[eQ];lia
inductive tH(vs:List V)(H:Hp)(Q:VK)(_e1:XK):Prop
 | mk (b:Int) (st sp:Nat) (g:Int) (_:vs=[.int b,.int (st:Int),.int (sp:Int),.int g]) (_:sp<=32) (_:(∀H' (k:Nat),aO H H'->Due b st sp g k->(∀j,Due b st sp g j->k<=j)->Q (.int (k:Int)) H')) (_:∀H',aO H H'->(∀k,¬Due b st sp g k)->Q .non H')
theorem tX(T:Tx K mg a):aV P w K mg base S6 4 a.abv a.aaX ["block","start","stop","goal"] tH:=by
 refine T.abM.F.S9 gM λZ A D s H vs Q E O h=>?_;obtain⟨b,o,e,g,rfl,X,M,L⟩:=h;refine(_,(aj (bI PassesOwn.never rfl (Bl rfl T.Wu (aa (aF T.XS (nU T) O (aa (pv 0) (aa (pv 2) ak))) ak) ao) (lr rfl (bV (aR 4 gM.nd) (bV (aR 5 gM.nd) ji))) (aq (aX (PW.pt (gw (aG jf (pv 4) (pv 1)) (fZ (aG jj (pv 5) (pv 3))))) (aq (aD (pv 4))) aL)))
  (aq (aD dY))),?_)
 refine(_,rfl,_,rfl,b,(e:Int),rfl,by lia,by lia,λr J Y I C=>?_);rw[abS]at C;exists r,_,rfl,rfl,My.of C;refine xF (xs:=(nets b e).map V.int) (λi v u=>(∃k n,v=[some (.int b),some (.int (o:Int)),some (.int (e:Int)),some (.int g),k,n])/\aO J u /\ ∀j,j<=i -> ¬Due b o e g j) ?_ ?_ ?_ ?_
 ·exact((none,none,rfl),aO.refl _,λj S d=>by have:=d.1;lia)
 ·rintro i v u _ ⟨_,q,_⟩;exact My.of (q _ _ C)
 ·rintro i x v u p N ⟨⟨k,n,rfl⟩,q,y⟩ R;obtain⟨c,B,rfl⟩:=int_at N;have U:i<e:=by
   have:=(aab.mp B).1;rw[eQ]at this;exact this
  have W:c=net b (i+1):=by
   rw[Av U]at B;exact(aap B).symm
  subst W;have m:aO J (upd u p (.tup [.int ((i+1:Nat):Int),.int (net b (i+1))])):=q.trans (az R _);have G:¬Due b o e g (i+1) -> ∀j,j<=i+1 -> ¬Due b o e g j:=λh j S=>by
   rcases aas i j with l|l
   ·have:j=i+1:=by lia
    subst this;exact h
   ·exact y j l
  exists p,_,rfl,S7.of au,rfl,_,_,rfl,_,_,rfl,rfl;refine(_,rfl,_,rfl,_,_,rfl,rfl,_,rfl,bC (λt=>?_) λt=>?_)
  ·have t:=of_decide_eq_true t;refine(_,rfl,_,rfl,_,_,rfl,rfl,_,rfl,bC (λf=>?_) λf=>?_)
   ·have f:=of_decide_eq_true f;exact(_,rfl,M _ (i+1) (I.trans m) (by lia,by lia,f) λj d=>by
     rcases aas i j with l|l
     ·exact l
     ·exact absurd d (y j l))
   ·have f:¬net b (i+1)<=g:=λz=>f (decide_eq_true z);exact((_,_,rfl),m,G λd=>f d.2.2)
  ·have t:¬(o:Int)<((i+1:Nat):Int):=λz=>t (decide_eq_true z);exact dN ((_,_,rfl),m,G λd=>by have:=d.1;lia)
 ·rintro v u ⟨_,q,y⟩;refine L _ (I.trans q) λk d=>y k ?_ d;rw[aaa,eQ];exact d.2.1
inductive uQ(vs:List V)(H:Hp)(Q:VK)(_e1:XK):Prop
 | mk (b:Int) (st sp:Nat) (g:Int) (_:vs=[.int b,.int (st:Int),.int (sp:Int),.int g]) (_:sp<=32) (_:(∀H' (k:Nat),aO H H'->Due b st sp g k->(∀j,Due b st sp g j->j<=k)->Q (.int (k:Int)) H')) (_:∀H',aO H H'->(∀k,¬Due b st sp g k)->Q .non H')
theorem vY(T:Tx K mg a):aV P w K mg base S6 4 a.ab2 a.abw ["block","start","stop","goal"] uQ:=by
 refine T.acq.F.S9 dh λa2 A O s H vs Q E Z h=>?_;obtain⟨b,o,m,g,rfl,a0,W,U⟩:=h;refine(_,(aj (aA 4 dh.nd dY)
  (aj (bI PassesOwn.never rfl (Bl rfl T.Wu (aa (aF T.XS (nU T) Z (aa (pv 0) (aa (pv 2) ak))) ak) ao) (lr rfl (bV (aR 5 dh.nd) (bV (aR 6 dh.nd) ji))) (aq (aX (PW.pt (gw (aG jf (pv 5) (pv 1)) (fZ (aG jj (pv 6) (pv 3))))) (aq (aA 4 dh.nd (pv 5))) aL)))
  (aq (aD (pv 4))))),?_)
 refine(_,rfl,_,rfl,b,(m:Int),rfl,by lia,by lia,λr S a1 R N=>?_);rw[abS]at N;exists r,_,rfl,rfl,My.of N;refine xF (xs:=(nets b m).map V.int) (λi D B=>∃f,(∃k n,D=[some (.int b),some (.int (o:Int)),some (.int (m:Int)),some (.int g),some f,k,n])/\aO S B /\
  ((f=.non /\ ∀j,j<=i -> ¬Due b o m g j) \/ ∃k:Nat,f=.int (k:Int)/\k<=i/\Due b o m g k /\ ∀j,j<=i->Due b o m g j->j<=k)) ?_ ?_ ?_ ?_
 ·exact(.non,(none,none,rfl),aO.refl _,.inl (rfl,λj G d=>by have:=d.1;lia))
 ·rintro i D B _ ⟨_,_,u,_⟩;exact My.of (u _ _ N)
 ·rintro i x D B p Y ⟨f,⟨k,n,rfl⟩,u,I⟩ hp;obtain⟨c,M,rfl⟩:=int_at Y;have hi:i<m:=by
   have:=(aab.mp M).1;rw[eQ]at this;exact this
  have ec:c=net b (i+1):=by
   rw[Av hi]at M;exact(aap M).symm
  subst ec;have t:aO S (upd B p (.tup [.int ((i+1:Nat):Int),.int (net b (i+1))])):=u.trans (az hp _);have C:¬Due b o m g (i+1)->(f=.non /\ ∀j,j<=i+1 -> ¬Due b o m g j) \/ ∃k:Nat,f=.int (k:Int)/\k<=i+1/\Due b o m g k /\ ∀j,j<=i+1->Due b o m g j->j<=k:=λh=>by
   rcases I with ⟨e,J⟩|⟨k,e,X,d,L⟩
   ·refine .inl (e,λj G=>?_);rcases aas i j with l|l
    ·have:j=i+1:=by lia
     subst this;exact h
    ·exact J j l
   ·refine .inr (k,e,by lia,d,λj G v=>?_);rcases aas i j with l|l
    ·have:j=i+1:=by lia
     subst this;exact absurd v h
    ·exact L j l v
  exists p,_,rfl,S7.of au,rfl,_,_,rfl,_,_,rfl,rfl;refine(_,rfl,_,rfl,_,_,rfl,rfl,_,rfl,bC (λy=>?_) λy=>?_)
  ·have y:=of_decide_eq_true y;refine(_,rfl,_,rfl,_,_,rfl,rfl,_,rfl,bC (λq=>?_) λq=>?_)
   ·have q:=of_decide_eq_true q;exact(_,rfl,_,(_,_,rfl),t,.inr (i+1,rfl,aac _,(by lia,by lia,q),λj G _=>G))
   ·have q:¬net b (i+1)<=g:=λz=>q (decide_eq_true z);exact(f,(_,_,rfl),t,C λd=>q d.2.2)
  ·have y:¬(o:Int)<((i+1:Nat):Int):=λz=>y (decide_eq_true z);exact dN (f,(_,_,rfl),t,C λd=>by have:=d.1;lia)
 ·rintro D B ⟨f,⟨k,n,rfl⟩,u,I⟩;rw[aaa,eQ]at I;exists _,rfl;rcases I with ⟨rfl,J⟩|⟨k,rfl,X,d,L⟩
  ·exact U _ (R.trans u) λk d=>J k d.2.1 d
  ·exact W _ k (R.trans u) d λj v=>L j v.2.1 v
inductive Ej(vs:List V)(H:Hp)(Q:VK)(_e1:XK):Prop
 | mk (n:Nat) (_:vs=[.int (n:Int)]) (_:n<=100000) (_:∀S,ir n S->Q (.int (S:Int)) H)
theorem iW(T:Tx K mg a):aV P w K mg base S6 1 a.aeG a.ad5 ["many"] Ej:=by
 refine T.Wq.F.S9 nW λo A d s H p Q E r h=>?_;obtain⟨n,rfl,u,q⟩:=h;refine(_,(aj (aA 1 nW.nd ao)
  (aj (mD PassesOwn.never (aG jH (pv 1) (pv 0)) (aq (aA 1 nW.nd (aB cL ao (pv 1)))))
  (aq (aD (pv 1))))),?_)
 exists λm f g=>∃h:Nat,f=[some (.int (n:Int)),some (.int ((2^h:Nat):Int))]/\g=H/\m=n - 2^h /\ ∀j,j<h->2^j<n,(_,0,rfl,rfl,rfl,λj b=>absurd b (agl _));rintro m f g ⟨h,rfl,rfl,rfl,b⟩;refine(_,rfl,_,rfl,_,_,rfl,rfl,_,rfl,bC (λc=>?_) λc=>?_)
 ·have c:((2^h:Nat):Int)<(n:Int):=of_decide_eq_true c;have t:0<2^h:=afS h;refine(_,λ i v z=>z,_,rfl,_,_,rfl,rfl,.inl (by decide,by decide),n - 2^(h+1),by rw[agb];lia,h+1,?_,rfl,rfl,λj k=>?_)
  ·have e:(2:Int)*((2^h:Nat):Int)=((2^(h+1):Nat):Int):=by rw[agb];lia
   rw[<-e];rfl
  ·rcases aas j h with l|l
   ·exact b j l
   ·have:j=h:=by lia
    subst this;lia
 ·have c:¬((2^h:Nat):Int)<(n:Int):=λz=>c (decide_eq_true z);exact(_,rfl,q (2^h) (h,rfl,by lia,b))
abbrev nats(l:List Nat):List V:=l.map λn:Nat=>V.int (n:Int)
inductive rF(vs:List V)(H:Hp)(Q:VK)(_e1:XK):Prop
 | mk (n st sp:Nat) (_:vs=[.int (n:Int),.int (st:Int),.int (sp:Int)]) (_:st<=sp) (_:sp<=n) (_:Q .non H)
theorem qK(T:Tx K mg a):aV P w K mg base S6 1 a.aa2 a.aaO ["many","start","stop"] rF:=by
 refine T.abf.F.S9 rB λe A b s H f Q E g h=>?_;obtain⟨n,c,d,rfl,j,i,q⟩:=h;exists _,(aq (aX (nG (Hn jj jj jj ao (pv 1) (pv 2) (pv 0))) (aq bW) aL));refine(_,rfl,_,_,rfl,rfl,_,rfl,bC (λ_=>?_) λz=>absurd (decide_eq_true (show (0:Int)<=(c:Int)from by lia)) z);refine(_,rfl,_,_,rfl,rfl,_,rfl,bC (λ_=>?_) λz=>absurd (decide_eq_true (show (c:Int)<=(d:Int)from by lia)) z);exists _,rfl,_,_,rfl,rfl,_,rfl;rw[decide_eq_true (show (d:Int)<=(n:Int)from by lia)];exact dN q
inductive Kz(vs:List V)(H:Hp)(Q:VK)(_e1:XK):Prop
 | mk (many st sp:Nat) (_:vs=[.int (many:Int),.int (st:Int),.int (sp:Int)]) (_:st<=sp) (_:sp<=many) (_:many<=4096) (_:∀S r H',ir many S->H r=none->aO H H'->H' r=some (.lst (nats (cover S st sp)))->Q (.ref r) H')
theorem Bd(T:Tx K mg a):aV P w K mg base S6 2 a.afu a.afi ["many","start","stop"] Kz:=by
 refine T.Y6.F.S9 dI λa6 A a1 s H vs Q E hr h=>?_;obtain⟨n,u,x,rfl,h1,h2,h3,q⟩:=h;refine(_,(aj (bu (aF T.abf (qK T) hr (aa (pv 0) (aa (pv 1) (aa (pv 2) ak)))))
  (aj (aA 3 dI.nd (aF T.Wq (iW T) hr (aa (pv 0) ak)))
  (aj (aA 4 dI.nd (aB bc (pv 3) (pv 1)))
  (aj (aA 5 dI.nd (aB bc (pv 3) (pv 2)))
  (aj (aA 6 dI.nd (cX ak))
  (aj (aA 7 dI.nd (cX ak))
  (aj (mD PassesOwn.never (aG jH (pv 4) (pv 5)) (aj (aX (aG cT (aB bT (pv 4) ao) ao) (aj (bu (gR PySem.F.plainAttrs_list PySem.F.slot_list_append PySem.F.type_list_append bZ (pv 6) (aa (pv 4) ak)))
  (aq (aA 4 dI.nd (aB bc (pv 4) ao)))) aL)
  (aj (aX (aG cT (aB bT (pv 5) ao) ao) (aj (aA 5 dI.nd (aB bz (pv 5) ao))
  (aq (bu (gR PySem.F.plainAttrs_list PySem.F.slot_list_append PySem.F.type_list_append bZ (pv 7) (aa (pv 5) ak))))) aL)
  (aj (aA 4 dI.nd (aB bL (pv 4) ao))
  (aq (aA 5 dI.nd (aB bL (pv 5) ao)))))))
  (aq (aD (aB mC (pv 6) (Fz rfl rfl T.W6 Tw.ph rfl T.Zi Tw.lD (aa (pv 7) ak)))))))))))),?_)
 exists _,rfl,_,rfl,_,rfl,n,u,x,rfl,h1,h2;refine(_,rfl,n,rfl,by lia,λS hS=>?_);exists _,rfl,_,rfl,_,_,rfl,rfl;exists _,rfl,_,rfl,_,_,rfl,rfl;refine((by show 0<=sizeLine;decide),λp X=>?_);refine((by show 0<=sizeLine;decide),λk W=>?_);have U:p≠k:=aJ au W;have J:=(az X (.lst [])).free W;have Y:=(az X (.lst [])).trans (az W (.lst []));have a5:=hS.le h3;refine(λm B O=>∃(e b f:Nat) (o j:List Nat),B=[some (.int (n:Int)),some (.int (u:Int)),some (.int (x:Int)),some (.int (S:Int)),some (.int (e:Int)),some (.int (b:Int)),some (.ref p),some (.ref k)]/\m=b - e/\aO H O/\O p=some (.lst (nats o))/\O k=some (.lst (nats j))/\b - e<=f/\Az f e b o j=cover S u x/\o.length+j.length+2*f<=20000,
  (_,S+u,S+x,x - u,[],[],rfl,rfl,Y,by rw[aH U,au];rfl,au,by lia,rfl,by simp;lia),?_)
 rintro m B O ⟨e,b,f,o,j,rfl,rfl,L,M,y,hf,C,hz⟩;refine(_,rfl,_,rfl,_,_,rfl,rfl,_,rfl,bC (λc=>?_) λc=>?_)
 ·have c:(e:Int)<(b:Int):=of_decide_eq_true c;obtain⟨f,rfl⟩:∃g,f=g+1:=(f - 1,by lia);unfold Az at C;rw[if_pos (by lia)]at C;exists _,λ a4 I z=>z;exists _,rfl,_,_,rfl,rfl,(by show (0:Int)<2;decide),rfl,_,rfl;refine GX (λ B I=>∃(D:List Nat),B=[some (.int (n:Int)),some (.int (u:Int)),some (.int (x:Int)),some (.int (S:Int)),some (.int ((e+e%2:Nat):Int)),some (.int (b:Int)),some (.ref p),some (.ref k)]/\D=(if e%2=1 then o++[e]else o)/\aO H I/\I p=some (.lst (nats D))/\I k=some (.lst (nats j))) (λd=>?_) ?_ (λd m=>?_)
  ·have d:¬(e:Int)%2=1:=λz=>d (decide_eq_true (congrArg V.int z));refine(o,?_,by rw[if_neg (by lia)],L,M,y);rw[show e+e%2=e from by lia]
  rotate_left
  ·have d:V.int ((e:Int)%2)=V.int 1:=of_decide_eq_true d;injection d with d
   exists _,rfl,.inl (rfl,_,My.of M),_,rfl,p,_,_,rfl,rfl,M,?_
   ·rw[aaa,sizeLine_eq];lia
   refine(_,rfl,_,_,rfl,rfl,m _ _ (o++[e],?_,by rw[if_pos (by lia)],bK L X _,?_,?_))
   ·rw[show ((e+e%2:Nat):Int)=(e:Int)+1 from by lia];rfl
   ·rw[au];unfold nats;rw[aal];rfl
   ·rw[aH U.symm];exact y
  rintro a3 I ⟨D,rfl,e2,T4,t,i⟩;exists _,rfl,_,_,rfl,rfl,(by show (0:Int)<2;decide),rfl,_,rfl;refine GX (λ B N=>∃(G:List Nat),B=[some (.int (n:Int)),some (.int (u:Int)),some (.int (x:Int)),some (.int (S:Int)),some (.int ((e+e%2:Nat):Int)),some (.int ((b - b%2:Nat):Int)),some (.ref p),some (.ref k)]/\G=(if b%2=1 then j++[b - 1]else j)/\aO H N/\N p=some (.lst (nats D))/\N k=some (.lst (nats G))) (λd=>?_) ?_ (λd m=>?_)
  ·have d:¬(b:Int)%2=1:=λz=>d (decide_eq_true (congrArg V.int z));refine(j,?_,by rw[if_neg (by lia)],T4,t,i);rw[show b - b%2=b from by lia]
  rotate_left
  ·have d:V.int ((b:Int)%2)=V.int 1:=of_decide_eq_true d;injection d with d
   exists _,rfl,_,_,rfl,rfl;refine(_,rfl,.inl (rfl,_,My.of i),_,rfl,k,_,_,rfl,rfl,i,?_,m _ _ (j++[b - 1],?_,by rw[if_pos (by lia)],bK T4 J _,?_,?_))
   ·rw[aaa,sizeLine_eq];lia
   ·rw[show ((b - b%2:Nat):Int)=(b:Int) - 1 from by lia];rfl
   ·rw[aH U];exact t
   ·rw[au];unfold nats;rw[aal];exact congrArg (λv=>some (HO.lst (j.map (λn:Nat=>V.int (n:Int))++[v]))) (congrArg V.int (show (b:Int) - 1=((b - 1:Nat):Int)from by lia))
  rintro a2 N ⟨G,rfl,e3,Z,a0,W3⟩;rw[<-e2,<-e3]at C;have z2:D.length<=o.length+1:=by
   rw[e2];split <;> simp
  have z3:G.length<=j.length+1:=by
   rw[e3];split <;> simp
  exists _,rfl,_,_,rfl,rfl,(by decide,by decide);refine(_,rfl,_,_,rfl,rfl,(by decide,by decide),(b - b%2) / 2 - (e+e%2) / 2,by lia,(e+e%2) / 2,(b - b%2) / 2,f,D,G,?_,rfl,Z,a0,W3,by lia,C,by lia);rw[show (((e+e%2) / 2:Nat):Int)=((e+e%2:Nat):Int) / 2 from by lia,show (((b - b%2) / 2:Nat):Int)=((b - b%2:Nat):Int) / 2 from by lia];rfl
 ·have c:¬(e:Int)<(b:Int):=λz=>c (decide_eq_true z);rw[K3 (by lia)]at C;refine(_,rfl,_,rfl,k,_,rfl,My.of y,λl t=>?_);have R:=az t (.lst (nats j).reverse);refine(p,l,_,_,rfl,rfl,R _ _ M,au,?_,λr i=>?_)
  ·rw[aht,aaa,aaa,sizeLine_eq];lia
  refine q S r _ hS ((L.trans R).free i) (L.trans (R.trans (az i _))) ?_;rw[au,<-C];unfold nats;rw[aal,aiy]
inductive G9(vs:List V)(H:Hp)(Q:VK)(_e1:XK):Prop
 | mk (x y:V) (_:vs=[x,y]) (_:NI x) (_:NI y) (_:Q (xO x y) H)
theorem yW(T:Tx K mg a):aV P w K mg base S6 1 a.adn a.acK ["one","other"] G9:=by
 refine T.adL.F.S9 yM λe A b s H f Q E g h=>?_;obtain⟨x,y,rfl,d,c,q⟩:=h;refine(_,(aj (aX (gB (oA (pv 0))) (aq (aD (pv 1))) aL)
  (aj (aX (gB (oA (pv 1))) (aq (aD (pv 0))) aL)
  (aq (aD (aK (xK rfl) rfl T.Zh Tw.Fl (aa (pv 0) (aa (pv 1) ak))))))),?_)
 rcases d with rfl|⟨i,rfl⟩
 ·rw[xM]at q;exact(_,rfl,_,rfl,jr (_,rfl,q))
 refine(_,rfl,_,rfl,dN ?_);rcases c with rfl|⟨j,rfl⟩
 ·exact(_,rfl,_,rfl,jr (_,rfl,q))
 exact(_,rfl,_,rfl,dN (_,rfl,_,rfl,i,j,rfl,q))
inductive Fd(K:PySem.W.Frag)(vs:List V)(H:Hp)(Q:VK)(E:XK):Prop
 | mk (p:Addr) (ns:List Int) (_:vs=[.ref p]) (_:My K H p (ns.map V.int)) (_:ns.length<=4096) (_:∀S r H' xs,ir ns.length S->H r=none->aO H H'->H' r=some (.lst xs)->jg ns S 1 xs->Q (.ref r) H')
theorem DX(T:Tx K mg a):aV P w K mg base S6 2 a.aeF a.ad4 ["numbers"] (Fd K):=by
 refine T.aeU.F.S9 kJ λa3 A R s H vs Q E hr h=>?_;obtain⟨p,b,rfl,o,hl,q⟩:=h;refine(_,(aj (aX (aG jf (aK aN rfl T.Th Tw.bh (aa (pv 0) ak)) (bG (v:=.int 4096) rfl T.adZ (_,rfl))) (aq bW) aL)
  (aj (aA 1 kJ.nd (aF T.Wq (iW T) hr (aa (aK aN rfl T.Th Tw.bh (aa (pv 0) ak)) ak)))
  (aj (aA 2 kJ.nd (aB mC (aB mC (aB zT (cX (aa dY ak)) (pv 1)) (cI kj rfl T.W6 Tw.ph (aa (pv 0) ak))) (aB zT (cX (aa dY ak)) (aB bz (pv 1) (aK aN rfl T.Th Tw.bh (aa (pv 0) ak))))))
  (aj (bI PassesOwn.never rfl (FZ rfl T.Wb (aa (aB bz (pv 1) ao) (aa ao (aa (lC jc ao) ak)))) (aR 3 kJ.nd) (aq (KY (aF T.adL (yW T) hr (aa (aW ig (pv 2) (aB cL ao (pv 3))) (aa (aW ig (pv 2) (aB bc (aB cL ao (pv 3)) ao)) ak))) (Qk (pv 2) (pv 3) set_list))))
  (aq (aD (pv 2))))))),?_)
 have u:(b.map V.int).length=b.length:=aaa ..;refine(_,rfl,p,_,rfl,.inl o,_,_,rfl,rfl,_,rfl,bC (λz=>?_) λ_=>?_)
 ·have z:(4096:Int)<((b.map V.int).length:Int):=of_decide_eq_true z;lia
 refine(_,rfl,p,_,rfl,.inl o,b.length,?_,by lia,λS x=>?_)
 ·rw[u];rfl
 have O:=x.pos;have a2:=x.le hl;have J:b.length<=S:=by
  obtain⟨_,_,z,_⟩:=x;exact z
 refine Gb (t:=Oz (tC .non) Ra) (σ:=[some (.ref p),some (.int (S:Int)),none,none]) (i:=1) (k:=(S:Int)) (xs:=[.non]) (λQ' q=>q) rfl (by lia) (by decide) (by lia) λp1 H1 a1 Z U=>?_;refine(_,rfl,p,_,rfl,.inl (Z.seq o),λl2 M=>?_);have Y:=az M (.lst (b.map V.int));have e1:(aaB (S:Int).toNat [V.non]).flatten=aaB S V.non:=by
  rw[abS];simp
 rw[e1]at U;refine(p1,l2,_,_,rfl,rfl,Y _ _ U,au,?_,λp3 I=>?_)
 ·rw[u,abt,sizeLine_eq];lia
 have s3:=az I (.lst (aaB S V.non++b.map V.int));refine((by show 1<=sizeLine;decide),λl4 L=>?_);have X:=az L (.lst [.non]);have j:=Z.trans (Y.trans (s3.trans X));refine(_,rfl,_,rfl,p,_,rfl,.inl (j.seq o),_,_,rfl,rfl,l4,((S - b.length:Nat):Int),[.non],rfl,?_,au,by lia,by lia,?_,λp5 G=>?_)
 ·show V.int ((S:Int) - ((b.map V.int).length:Int))=_;rw[u];exact congrArg V.int (by lia)
 ·rw[sizeLine_eq];show 1*_<=_;lia
 have e5:(aaB ((S - b.length:Nat):Int).toNat [V.non]).flatten=aaB (S - b.length) V.non:=by
  rw[abS];simp
 rw[e5];have W:=az G (.lst (aaB (S - b.length) V.non));refine(p3,p5,_,_,rfl,rfl,W _ _ (X _ _ au),au,?_,λr m=>?_)
 ·rw[aaf,u,abt,abt,sizeLine_eq];lia
 have g:=j.trans W;have l:=g.free m;have s6:=g.trans (az m (.lst (aaB S V.non++b.map V.int++aaB (S - b.length) V.non)));refine(_,rfl,_,_,rfl,rfl,_,rfl,S - 1,0,?_,by lia,by lia,?_)
 ·rw[show ((S - 1:Nat):Int)=(S:Int) - 1 from by lia];rfl
 refine Dd (n:=S - 1 - 0) (λi y f=>(∃C,y=[some (.ref p),some (.int (S:Int)),some (.ref r),C])/\aO H f /\ ∃c,f r=some (.lst c)/\jg b S (S - i) c) ((none,rfl),s6,_,au,jg.start O J) ?_ ?_
 ·rintro i y f hi ⟨⟨C,rfl⟩,B,c,d,e⟩;obtain⟨k,rfl⟩:∃k,S=k+i+1:=(S - i - 1,by lia);have D:((k+i+1 - 1:Nat):Int)+(i:Int)*(-1)=(k:Int):=by lia
  rw[show k+i+1 - i=k+1 from by lia]at e;have a0:=e.len;have hx:c[2*k]?=some c[2*k]:=aad (by lia);have hy:c[2*k+1]?=some c[2*k+1]:=aad (by lia);have ha:Tz c (2*(((k+i+1 - 1:Nat):Int)+(i:Int)*(-1)))=some c[2*k]:=by
   rw[D,show 2*(k:Int)=((2*k:Nat):Int)from by lia];exact Gr hx
  have hb:Tz c (2*(((k+i+1 - 1:Nat):Int)+(i:Int)*(-1))+1)=some c[2*k+1]:=by
   rw[D,show 2*(k:Int)+1=((2*k+1:Nat):Int)from by lia];exact Gr hy
  have N:U5 c.length (((k+i+1 - 1:Nat):Int)+(i:Int)*(-1))=some k:=by
   rw[D];exact Oj (by lia)
  exists _,rfl,_,rfl,_,_,rfl,rfl,.inl (by decide,by decide),r,_,_,_,rfl,rfl,My.of d,ha;exists _,rfl,_,rfl,_,_,rfl,rfl,.inl (by decide,by decide),_,_,rfl,rfl,r,_,_,_,rfl,rfl,My.of d,hb;exists _,_,rfl,e.ni _ (abX _),e.ni _ (abX _);exists _,rfl,_,rfl,r,_,_,k,rfl,rfl,d,N,(_,rfl),bK B l _,_,au;rw[show k+i+1 - (i+1)=k from by lia];exact e.step (by lia) (by lia) hx hy
 ·rintro y f ⟨⟨C,rfl⟩,B,c,d,e⟩;rw[show S - (S - 1 - 0)=1 from by lia]at e;exact(_,rfl,q S r f c x l B d e)
inductive Du(K:PySem.W.Frag)(vs:List V)(H:Hp)(Q:VK)(_e1:XK):Prop
 | mk (p:Addr) (ns:List Int) (_:vs=[.ref p]) (_:My K H p (ns.map V.int)) (_:∀b H',(b=true ↔ Tree ns)->aO H H'->Q (.bl b) H')
theorem Ds(T:Tx K mg a):aV P w K mg base S6 1 a.aeJ a.ad9 ["bits"] (Du K):=by
 refine T.aeV.F.S9 iG λL A v s H M Q E O h=>?_;obtain⟨p,d,rfl,u,q⟩:=h;refine(_,(aj (aA 1 iG.nd ao)
  (aj (bI PassesOwn.never rfl (uh rfl T.Wu (aa (pv 0) ak)) (lr rfl (bV (aR 2 iG.nd) (bV (aR 3 iG.nd) ji))) (aj (aX (PW.pt (gw (aG jf (pv 2) ao) (fZ (aG jj (pv 1) ao)))) (aq (aD nq)) aL)
  (aq (aA 1 iG.nd (aB bz (aB bc (pv 1) (aB cL ao (pv 3))) ao)))))
  (aq (aD (Ka (Gs z8 (aK aN rfl T.Th Tw.bh (aa (pv 0) ak)) ao) (JB (Gs cT (pv 1) ao))))))),?_)
 exists _,rfl,p,_,rfl,u;refine vI (xs:=d.map V.int) (λi o f=>(∃j g,o=[some (.ref p),some (.int (ht d i)),j,g])/\aO H f /\ ∀k,0<k->k<i->0<ht d k) ((none,none,by rw[jk];rfl),aO.refl _,λk _ h=>absurd h (agl _)) ?_ ?_ ?_
 ·rintro i o f _ ⟨_,e,_⟩;exact e.seq u
 ·rintro i x o f y G ⟨⟨j,g,rfl⟩,e,r⟩ J;obtain⟨b,C,rfl⟩:=int_at G;have I:=(aab.mp C).1;have n:=e.trans (az J (.tup [.int (i:Int),.int b]));exists y,_,rfl,S7.of au,rfl,_,_,rfl,_,_,rfl,rfl;have D:(0<i->0<ht d i)->(∃j g,[some (V.ref p),some (.int (ht d i+2*b - 1)),some (.int (i:Int)),some (.int b)]=[some (.ref p),some (.int (ht d (i+1))),j,g])/\aO H (upd f y (.tup [.int (i:Int),.int b])) /\ ∀k,0<k->k<i+1->0<ht d k:=λh =>
   ((_,_,by rw[jU C]),n,λk B N=>by
    rcases aas k i with l|l
    ·exact r k B l
    ·have:k=i:=by lia
     subst this;exact h B)
  refine(_,rfl,_,_,rfl,rfl,_,rfl,bC (λc=>?_) λc=>?_)
  ·have c:(0:Int)<(i:Int):=of_decide_eq_true c;refine(_,rfl,_,_,rfl,rfl,_,rfl,bC (λm=>?_) λm=>?_)
   ·have m:ht d i<=0:=of_decide_eq_true m;exact q false _ (λz=>absurd z aar,λt=>by have:=t.2.2 i (by lia) I;lia) n
   ·have m:¬ht d i<=0:=λz=>m (decide_eq_true z);exact(_,rfl,_,rfl,_,_,rfl,rfl,.inl (by decide,by decide),_,_,rfl,rfl,_,_,rfl,rfl,D λ_=>by lia)
  ·have c:¬(0:Int)<(i:Int):=λz=>c (decide_eq_true z);refine dN ?_;exact(_,rfl,_,rfl,_,_,rfl,rfl,.inl (by decide,by decide),_,_,rfl,rfl,_,_,rfl,rfl,D λz=>by lia)
 ·rintro o f ⟨⟨j,g,rfl⟩,e,r⟩;rw[aaa]at r ⊢;refine(_,rfl,p,_,rfl,.inl (e.seq u),_,_,rfl,rfl,_,rfl,bC (λc=>?_) λc=>?_)
  ·have c:(2:Int)<=((d.map V.int).length:Int):=of_decide_eq_true c;rw[aaa]at c;exists _,rfl,rfl;refine q _ f ?_ e;rw[decide_eq_true_iff];exact(λz=>(by lia,V.int.inj z,r),λt=>congrArg V.int t.2.1)
  ·have c:¬(2:Int)<=((d.map V.int).length:Int):=λz=>c (decide_eq_true z);rw[aaa]at c;exact q false f (λz=>absurd z aar,λt=>by have:=t.1;lia) e
structure Tab(H:Hp)(t ah:Addr)(ns:List Int)(rest:List V):Prop where
 tup:H t=some (.tup (.int (ns.length:Int)::.ref ah::rest))
 Uo:H ah=some (.tup ((TQ ns (many ns.length)).map V.int))
 few:rest.length<=1
theorem Tab.same{H':Hp}{t :Addr}(h:Tab H t f d l)(s:aO H H'):Tab H' t f d l:=(s _ _ h.tup,s _ _ h.Uo,h.few)
theorem mU(x y:V):∀rest:List V,rest.length<=1->Tz (x::y::rest) 0=some x
 | [],_=>rfl
 | [_],_=>rfl
 | _::_::_,h=>absurd h (by simp)
theorem pA(x y:V):∀rest:List V,rest.length<=1->Tz (x::y::rest) 1=some y
 | [],_=>rfl
 | [_],_=>rfl
 | _::_::_,h=>absurd h (by simp)
theorem J0{n j:Nat}(h:j<=n):Tz ((TQ d n).map V.int) (j:Int)=some (.int (d.take (32*j)).sum):=oO (o8 h)
inductive BZ(K:PySem.W.Frag)(vs:List V)(H:Hp)(Q:VK)(_e1:XK):Prop
 | mk (p:Addr) (ns:List Int) (_:vs=[.ref p]) (_:My K H p (ns.map V.int)) (_:ns.length<=4096) (_:aZ ns) (_:∀r b t ah H',H b=none->aO H H'->H' r=some (.tup [.ref t,.ref b])->Tab H' t ah ns []->H' b=some (.lst ((bD ns).map V.int))->Q (.ref r) H')
theorem lq(T:Tx K mg a):aV P w K mg base S6 5 a.ad6 a.ado ["bits"] (BZ K):=by
 refine T.XX.F.S9 rP λz A i s H B Q E j h=>?_;obtain⟨p,c,rfl,l,x,k,q⟩:=h;refine(_,(aj (aA 1 rP.nd (aF T.afn (Jt T) j (aa (pv 0) ak)))
  (aq (aD (iM (aa (iM (aa (aK aN rfl T.Th Tw.bh (aa (pv 0) ak)) (aa (aF T.aeo (Ai T) j (aa (pv 1) ak)) ak))) (aa (pv 1) ak)))))),?_)
 refine(_,rfl,p,c,rfl,l,x,k,λb G g u n=>?_);refine(_,rfl,p,_,rfl,.inl (u.seq l),_,rfl,b,bD c,rfl,My.of n,?_,λo D C v m=>?_)
 ·rw[bA];unfold many;lia
 rw[zm k]at m;have y:(c.map V.int).length=c.length:=aaa ..;rw[y];refine((by show 2<=sizeLine;decide),λt ht=>(_,rfl,(by show 2<=sizeLine;decide),λr f=>?_));have e:=az ht (.tup [.int (c.length:Int),.ref o]);have d:=az f (.tup [.ref t,.ref b]);exact q r b t o _ g (u.trans (v.trans (e.trans d))) au (d _ _ au,d _ _ (e _ _ m),by decide) (d _ _ (e _ _ (v _ _ n)))
inductive pY(K:PySem.W.Frag)(vs:List V)(H:Hp)(Q:VK)(_e1:XK):Prop
 | mk (p:Addr) (ns:List Int) (_:vs=[.ref p]) (_:My K H p (ns.map V.int)) (_:ns.length<=4096) (_:aZ ns) (_:Tree ns) (_:∀H',aO H H'->Q .non H')
theorem pI(T:Tx K mg a):aV P w K mg base S6 2 a.aaP a.aaF ["bits"] (pY K):=by
 refine T.aaV.F.S9 oF λm A d s H n Q E f h=>?_;obtain⟨p,e,rfl,g,j,k,ht,q⟩:=h;refine(_,(aj (bu (aF T.YZ (pN T) f (aa (pv 0) ak)))
  (aq (aX (nG (zO (aF T.aeV (Ds T) f (aa (pv 0) ak)))) (aq bW) aL))),?_)
 exists _,rfl,p,e,rfl,g,j,k;refine(_,rfl,p,e,rfl,g,λb l c i=>?_);have:b=true:=c.mpr ht;subst this;exact(true,rfl,dN (q l i))
inductive Ed(vs:List V)(H:Hp)(Q:VK)(_e1:XK):Prop
 | mk (t ah:Addr) (ns:List Int) (rest:List V) (j:Nat) (_:vs=[.ref t,.int (j:Int)]) (_:Tab H t ah ns rest) (_:j<=many ns.length) (_:Q (.int (ht ns (32*j))) H)
theorem nY(T:Tx K mg a):aV P w K mg base S6 1 a.aeL a.aea ["tables","number"] Ed:=by
 refine T.X3.F.S9 DQ λf A c s H g Q E k h=>?_;obtain⟨t,e,i,rest,j,rfl,b,d,q⟩:=h;exists _,(aq (aD (aB bz (aB cL ao (aW aU (aW aU (pv 0) ao) (pv 1))) (aB cL (bG (v:=.int 32) rfl T.Uj (_,rfl)) (pv 1)))));exists _,rfl,t,_,_,_,rfl,rfl,S7.of b.tup,pA _ _ _ b.few,_,rfl,e,_,_,_,rfl,rfl,S7.of b.Uo,J0 d,_,_,rfl,rfl,.inl (by decide,by decide),_,rfl,_,_,rfl,rfl,.inl (by decide,by decide),_,_,rfl,rfl;unfold ht at q;rw[show ((32*j:Nat):Int)=32*(j:Int)from by lia]at q;exact q
inductive wY(vs:List V)(H:Hp)(Q:VK)(_e1:XK):Prop
 | mk (j n:Nat) (_:vs=[.int (j:Int),.int (n:Int)]) (_:32*j<=n) (_:Q (.int (wide n j:Nat)) H)
theorem jx(T:Tx K mg a):aV P w K mg base S6 1 a.acO a.ab5 ["number","upto"] wY:=by
 refine T.X4.F.S9 wD λc A b s H d Q E f h=>?_;obtain⟨j,n,rfl,g,q⟩:=h;exists _,(aq (aD (aK (xK rfl) rfl T.Zh Tw.Fl (aa (aB bz (pv 1) (aB cL (bG (v:=.int 32) rfl T.Uj (_,rfl)) (pv 0))) (aa (bG (v:=.int 32) rfl T.Uj (_,rfl)) ak)))));exists _,rfl,_,rfl,_,_,rfl,rfl,.inl (by decide,by decide),_,_,rfl,rfl,_,_,rfl;have e:(if (32:Int)<(n:Int) - 32*(j:Int)then (32:Int)else (n:Int) - 32*(j:Int))=((wide n j:Nat):Int):=by
  unfold wide;split <;> lia
 rw[<-e]at q;exact q
inductive Hm(vs:List V)(H:Hp)(Q:VK)(_e1:XK):Prop
 | mk (t ah:Addr) (ns:List Int) (rest:List V) (j:Nat) (_:vs=[.ref t,.int (j:Int),.int (cB ns j)]) (_:Tab H t ah ns rest) (_:aZ ns) (_:32*j<ns.length) (_:∀m H',xY ns j m->aO H H'->Q (.int m) H')
theorem Hb(T:Tx K mg a):aV P w K mg base S6 5 a.afk a.aeK ["tables","number","block"] Hm:=by
 refine T.afq.F.S9 Jg λn A f s H o Q E c h=>?_;obtain⟨t,l,b,rest,j,rfl,d,k,r,q⟩:=h;exists _,(aq (aD (aB bc (aF T.X3 (nY T) c (aa (pv 0) (aa (pv 1) ak))) (aF T.afp (Iz T) c (aa (pv 2) (aa (aF T.X4 (jx T) c (aa (pv 1) (aa (aW aU (pv 0) ao) ak))) ak))))));have i:j<=many b.length:=by
  unfold many;lia
 have p:1<=wide b.length j/\wide b.length j<=32:=by
  unfold wide;lia
 exists _,rfl,_,rfl,t,l,b,rest,j,rfl,d,i;refine(_,rfl,_,rfl,_,rfl,t,_,_,_,rfl,rfl,S7.of d.tup,mU _ _ _ d.few,j,b.length,rfl,by lia,?_);refine(cB b j,((wide b.length j:Nat):Int),rfl,by lia,by lia,λM m e g=>(_,_,rfl,rfl,?_));rw[abS]at e;exact q _ m (xY.of k e.1 e.2) g
structure KB(H:Hp)(t ah nd bl:Addr)(ns lows:List Int)(S:Nat)(xs:List V):Prop where
 tab:Tab H t ah ns [.ref nd]
 Vu:H nd=some (.tup xs)
 Zt:H bl=some (.lst ((bD ns).map V.int))
 low:DP ns lows
 sz:ir lows.length S
 heap:jg lows S 1 xs
inductive qM(K:PySem.W.Frag)(vs:List V)(H:Hp)(Q:VK)(_e1:XK):Prop
 | mk (p:Addr) (ns:List Int) (_:vs=[.ref p]) (_:My K H p (ns.map V.int)) (_:ns.length<=4096) (_:aZ ns) (_:Tree ns) (_:∀r t ah nd bl lows S xs H',H bl=none->H r=none->H t=none->aO H H'->H' r=some (.tup [.ref t,.ref bl])->KB H' t ah nd bl ns lows S xs->Q (.ref r) H')
theorem qI(T:Tx K mg a):aV P w K mg base S6 6 a.aa3 a.aaQ ["bits"] (qM K):=by
 refine T.abg.F.S9 cJ λa1 A U s H vs Q E n h=>?_;obtain⟨p,d,rfl,hS,Z,L,ht,q⟩:=h;refine(_,(aj (bu (aF T.aaV (pI T) n (aa (pv 0) ak)))
  (aj (aA 1 cJ.nd (aF T.XX (lq T) n (aa (pv 0) ak)))
  (aj (q9 (i:=2) cJ.nd rfl (ahs rfl) (aW aU (pv 1) ao))
  (aj (aA 3 cJ.nd (aW aU (pv 1) ao))
  (aj (Be (i:=4) cJ.nd rfl rfl rfl ((cH.one (j:=2) rfl (agG rfl) rfl rfl (agG rfl)),rfl,by decide) (uh rfl T.Wu (aa (pv 3) ak)) (λ_ _ _ _=>(aF T.afq (Hb T) n (aa (pv 2) (aa (pv 0) (aa (pv 1) ak))))))
  (aq (aD (iM (aa (iM (aa (aW aU (pv 2) ao) (aa (aW aU (pv 2) ao) (aa (cI gb rfl T.X5 Tw.oV (aa (aF T.aeU (DX T) n (aa (pv 4) ak)) ak)) ak)))) (aa (pv 3) ak)))))))))),?_)
 refine(_,rfl,p,d,rfl,hS,Z,L,ht,λH1 g=>?_);refine(_,rfl,p,d,rfl,g.seq hS,Z,L,λr b t M H2 O C W o u=>?_);exists _,rfl,r,_,_,_,rfl,rfl,S7.of W,rfl;exists _,rfl,r,_,_,_,rfl,rfl,S7.of W,rfl;have e:=bA d;have Zu:many d.length<=128:=by
  unfold many;lia
 exists _,rfl,b,_,rfl,My.of u;refine Fb (xY d) (My.of u) (by rw[e,sizeLine_eq];lia) (λi c H' Q J sm qq=>?_) λD H3 G hD f xD m hR=>?_
 ·have I:=(aab.mp J).1;rw[e]at I;rw[mX I]at J;cases J;refine(_,rfl,_,rfl,_,rfl,t,M,d,[],i,rfl,o.same sm,L,?_,qq);unfold many at I;lia
 have R:DP d G:=(by rw[m,e],hR);exists _,rfl,t,_,_,_,rfl,rfl,S7.of (f _ _ o.tup),rfl;exists _,rfl,t,_,_,_,rfl,rfl,S7.of (f _ _ o.tup),rfl;refine(_,rfl,D,G,rfl,My.of xD,by lia,λS r4 H4 V Um a0 B x4 hv=>?_);refine(r4,_,rfl,.inl (My.of x4,λY N=>?_));have z:=az N (.tup V);refine((by show 3<=sizeLine;decide),λX k=>?_);have y:=az k (.tup [.int (d.length:Int),.ref M,.ref Y]);refine(_,rfl,(by show 2<=sizeLine;decide),λr7 l=>?_);have x:=az l (.tup [.ref X,.ref b]);have v:=f.trans (B.trans (z.trans (y.trans x)));refine q r7 X M Y b G S V _ (g.free O) ((g.trans (C.trans (f.trans (B.trans (z.trans y))))).free l) ((g.trans (C.trans (f.trans (B.trans z)))).free k) (g.trans (C.trans v)) au ((x _ _ au,v _ _ o.Uo,aac _),x _ _ (y _ _ au),v _ _ u,R,Um,hv)
inductive tV(vs:List V)(H:Hp)(Q:VK)(_e1:XK):Prop
 | mk (p:Addr) (ds:List Int) (_:vs=[.ref p]) (_:H p=some (.lst (ds.map V.int))) (_:gj ds) (_:ds.length<=2048) (_:∀H',aO H H'->Q .non H')
theorem tO(T:Tx K mg a):aV P w K mg base S6 1 a.abE a.aba ["depths"] tV:=by
 refine T.abP.F.S9 gF λO A l s H R Q E S h=>?_;obtain⟨p,b,rfl,e,k,U,q⟩:=h;refine(_,(aj (aX (aG jf (aK aN rfl T.Th Tw.bh (aa (pv 0) ak)) (bG (v:=.int 2048) rfl T.ae3 (_,rfl))) (aq bW) aL)
  (aj (aX (PW.pt (nu (aG cT (aK aN rfl T.Th Tw.bh (aa (pv 0) ak)) ao) (kI (aG yf (aW ig (pv 0) ao) ao)))) (aq bW) aL)
  (aq (bI PassesOwn.never rfl (DY rfl T.Zm Tw.Fv (aa (pv 0) (aa (cC pP (pv 0) (cO ao) dB) ak))) (lr rfl (bV (aR 1 gF.nd) (bV (aR 2 gF.nd) ji))) (aq (aX (nG (v8 jj jj ao (pv 2) (aB bc (pv 1) ao))) (aq bW) aL)))))),?_)
 have C:(b.map V.int).length=b.length:=aaa ..;have W:0<b.length:=(aab.mp k.1).1;refine(_,rfl,p,_,rfl,.inl (My.of e),_,_,rfl,rfl,_,rfl,bC (λc=>?_) λc=>?_)
 ·have c:(2048:Int)<((b.map V.int).length:Int):=of_decide_eq_true c;rw[C]at c;lia
 refine(_,rfl,p,_,rfl,.inl (My.of e),rfl,_,rfl,bC (λc=>?_) λc=>?_)
 ·have c:V.int ((b.map V.int).length:Int)=V.int 0:=of_decide_eq_true c;injection c with c
  rw[C]at c;lia
 refine(_,rfl,p,_,_,_,rfl,rfl,My.of e,oO (i:=0) k.1,rfl,_,rfl,xV rfl ?_);refine(_,rfl,_,rfl,_,rfl,p,_,rfl,My.of e,λc L=>?_);have j:=az L (.lst (fB (b.map V.int) (some 1) none));have M:fB (b.map V.int) (some 1) none=(b.drop 1).map V.int:=KC b 1;have m:upd H c (.lst (fB (b.map V.int) (some 1) none)) c=some (.lst ((b.drop 1).map V.int)):=by rw[au,M]
 generalize upd H c (.lst (fB (b.map V.int) (some 1) none))=N at *;exists p,c,_,_,rfl,My.of (j _ _ e),My.of m;refine Ol (xs:=b.map V.int) (ys:=(b.drop 1).map V.int) (λi g f=>(∃o n,g=[some (.ref p),o,n])/\aO N f) ((none,none,rfl),aO.refl _) ?_ ?_ ?_
 ·rintro i g f _ ⟨_,d⟩;exact(My.of (d _ _ (j _ _ e)),My.of (d _ _ m))
 ·rintro i x y g f t I G ⟨⟨o,n,rfl⟩,d⟩ ht;obtain⟨u,J,rfl⟩:=int_at I;obtain⟨v,r,rfl⟩:=int_at G;rw[age,aiQ]at r;have B:=k.2 i u v J r;have D:=az ht (.tup [.int u,.int v]);exists t,_,rfl,S7.of au,rfl,_,_,rfl,_,_,rfl,rfl;exact(_,rfl,_,_,rfl,rfl,_,rfl,bC (λ_=>(_,rfl,_,_,rfl,rfl,_,_,rfl,rfl,_,rfl,xV B.2 ((_,_,rfl),d.trans D))) λz=>absurd (decide_eq_true B.1) z)
 ·rintro g f ⟨_,d⟩;exact q f (j.trans d)
inductive vX(vs:List V)(H:Hp)(Q:VK)(_e1:XK):Prop
 | mk (p:Addr) (ds:List Int) (_:vs=[.ref p]) (_:H p=some (.lst (ds.map V.int))) (_:gj ds) (_:ds.length<=2048) (_:∀r H',H r=none->aO H H'->H' r=some (.lst ((brk ds 0).map V.int))->Q (.ref r) H')
theorem v4(T:Tx K mg a):aV P w K mg base S6 2 a.ab9 a.abF ["depths"] vX:=by
 refine T.acs.F.S9 cY λa1 A O s H vs Q E hr h=>?_;obtain⟨p,g,rfl,G,I,hl,q⟩:=h;refine(_,(aj (bu (aF T.abP (tO T) hr (aa (pv 0) ak)))
  (aj (aA 1 cY.nd (cX ak))
  (aj (aA 2 cY.nd ao)
  (aj (bI PassesOwn.never rfl (bO (pv 0)) (aR 3 cY.nd) (aj (bu (gR PySem.F.plainAttrs_list PySem.F.slot_list_extend PySem.F.type_list_extend qz (pv 1) (aa (aB zT (cX (aa ao ak)) (aB bz (pv 2) (pv 3))) ak)))
  (aj (bu (gR PySem.F.plainAttrs_list PySem.F.slot_list_append PySem.F.type_list_append bZ (pv 1) (aa ao ak)))
  (aq (aA 2 cY.nd (aB bc (pv 3) ao))))))
  (aq (aD (aB mC (pv 1) (aB zT (cX (aa ao ak)) (pv 2))))))))),?_)
 have X:=jP I.dp;refine(_,rfl,p,g,rfl,G,I,hl,λZ U=>?_);refine((by show 0<=sizeLine;decide),λb W=>?_);have S:=U.trans (az W (.lst []));have xb:upd Z b (.lst []) b=some (.lst (([]:List Int).map V.int)):=au;have t:H b=none:=U.free W;generalize upd Z b (.lst [])=H2 at *;exists _,rfl,p,rfl,(_,My.of (S _ _ G));refine b7 (xs:=g.map V.int) (λi v j=>(∃(u:Int) (D:Option V) (e:List Int),v=[some (.ref p),some (.ref b),some (.int u),D]/\j b=some (.lst (e.map V.int))/\e++brk (g.drop i) u=brk g 0/\Dp (g.drop i) u)/\aO H j) ((0,none,[],rfl,xb,rfl,I.dp),S) ?_ ?_ ?_
 ·rintro i v j _ ⟨_,m⟩;exact My.of (m _ _ G)
 ·rintro i x v j hx ⟨⟨u,D,e,rfl,z,f,hd⟩,m⟩;obtain⟨d,r,rfl⟩:=int_at hx;have hi:=(aab.mp r).1;have N:g.drop i=d::g.drop (i+1):=by
   rw[abV hi];congr 1;exact(aab.mp r).2
  rw[N]at f hd;obtain⟨d0,du,M⟩:=hd;have c:=congrArg af7 f;simp only[brk,aaf,abt,aaY]at c;rw[X]at c;have hu:u - d<=4096:=by lia
  have ub:e.length<=4096:=by lia
  exists _,rfl,.inl (rfl,_,My.of z);refine((by show 1<=sizeLine;decide),λC h1=>(_,rfl,_,rfl,_,_,rfl,rfl,C,u - d,[.int 0],rfl,rfl,au,by lia,by lia,?_,λy L=>?_))
  ·rw[sizeLine_eq];show 1*_<=_;lia
  have R:=(az h1 (.lst [.int 0])).trans (az L (.lst (aaB (u - d).toNat [.int 0]).flatten));have x3:upd (upd j C (.lst [.int 0])) y (.lst (aaB (u - d).toNat [.int 0]).flatten) y=some (.lst ((aaB (u - d).toNat (0:Int)).map V.int)):=by
   rw[au,Gy]
  have Zv:=R _ _ z;have J:=m.trans R;generalize upd (upd j C (.lst [.int 0])) y (.lst (aaB (u - d).toNat [.int 0]).flatten)=Y at *;exists b,y,_,_,rfl,rfl,Zv,x3,?_
  ·rw[aaa,aaa,abt,sizeLine_eq];lia
  have n:upd Y b (.lst (e.map V.int++(aaB (u - d).toNat (0:Int)).map V.int)) b=some (.lst ((e++aaB (u - d).toNat 0).map V.int)):=by
   rw[au,aal]
  have Up:=bK J t (.lst (e.map V.int++(aaB (u - d).toNat (0:Int)).map V.int));generalize upd Y b (.lst (e.map V.int++(aaB (u - d).toNat (0:Int)).map V.int))=H4 at *;exists _,rfl,.inl (rfl,_,My.of n),b,_,_,rfl,rfl,n,?_
  ·rw[aaa,aaf,abt,sizeLine_eq];lia
  refine(_,rfl,_,_,rfl,rfl,(d+1,_,e++aaB (u - d).toNat 0++[1],rfl,?_,?_,M),bK Up t _)
  ·rw[au,aal (l₂:=[1])];rfl
  ·rw[<-f];simp[brk]
 ·rintro v j ⟨⟨u,D,e,rfl,z,f,hd⟩,m⟩;rw[aaa,ahi]at f hd;have hu:0<=u:=hd;have c:=congrArg af7 f;simp only[brk,aaf,abt]at c;rw[X]at c;exists _,rfl;refine Gb (i:=2) (k:=u) (xs:=[.int 0]) (λQ' q=>q) rfl (by lia) (by decide) (by lia) λp1 H4 a0 B n=>?_;rw[Gy]at n;refine(b,p1,_,_,rfl,rfl,B _ _ z,n,?_,λp2 o=>?_)
  ·rw[aaa,aaa,abt,sizeLine_eq];lia
  refine q p2 _ ((m.trans B).free o) (m.trans (B.trans (az o _))) ?_;rw[au,<-aal];exact congrArg (λl:List Int=>some (HO.lst (l.map V.int))) f
inductive uA(vs:List V)(H:Hp)(Q:VK)(E:XK):Prop
 | mk (at0 most:Int) (_:vs=[.int at0,.int most]) (_:0<=at0) (_:at0<=most) (_:Q .non H)
theorem di(T:Tx K mg a):aV P w K mg base S6 1 a.ab3 a.aby ["at","most"] uA:=by
 refine T.Wr.F.S9 vm λf A d s H i Q E j h=>?_;obtain⟨g,e,rfl,l,k,q⟩:=h;exists _,(aq (aX (PW.pt (nu (aG jH (pv 0) ao) (kI (aG jf (pv 0) (pv 1))))) (aq bW) aL));refine(_,rfl,_,_,rfl,rfl,_,rfl,bC (λc=>?_) λc=>?_)
 ·have c:=of_decide_eq_true c;lia
 refine(_,rfl,_,rfl,_,_,rfl,rfl,_,rfl,bC (λb=>?_) λb=>?_)
 ·have b:=of_decide_eq_true b;lia
 exact q
theorem eO.outL{f b:Addr}{c:o7}{cs:List Addr}{Tc:List V}{xs:List V}(h:eO H f c cs Tc)(e:H b=some (.lst xs)):b∉cs:=λz=>by
 obtain⟨i,g⟩:=abk z;obtain⟨j,v,u,_,d,_⟩:=h.cells i b g;rw[e]at d;cases d
inductive K7(f:Addr)(vs:List V)(H:Hp)(Q:VK)(_e1:XK):Prop
 | mk (sn bl:Addr) (ss:List Int) (xs:List V) (n:Nat) (x:V) (cs:List Addr) (_:vs=[.int (n:Int)]) (_:iH H f bU cs [.ref sn,.ref bl]) (_:H sn=some (.lst (ss.map V.int))) (_:H bl=some (.lst xs)) (_:sn≠bl) (_:ss.length<=1000000) (_:xs[n]?=some x) (_:Q x (upd H sn (.lst ((ss++[(n:Int)]).map V.int))))
theorem Bo(T:Tx K mg a):fH P w K mg base 1 K7:=by
 refine Ql CJ (λ_ _ _ _ _ t y=>match t,y with | [_],_=>rfl) λf C H Q h=>?_;obtain⟨b,d,e,j,n,x,c,rfl,g,o,m,v,B,l,q⟩:=h;have k:=iH.out g o;have u:=iH.out g m;refine(rfl,c,[.ref b,.ref d],g,λG A i s D=>(_,(aj (bu (gR PySem.F.plainAttrs_list PySem.F.slot_list_append PySem.F.type_list_append bZ (pv 1) (aa (pv 0) ak)))
  (aj (aX (v8 jj jH ao (pv 0) (aK aN rfl T.Th Tw.bh (aa (pv 2) ak))) (aq (aD (aW ig (pv 2) (pv 0)))) aL)
  (aq (aD ao)))),?_))
 have r:hide H c b=some (.lst (e.map V.int)):=by rw[bx k];exact o
 have p:upd (hide H c) b (.lst (e.map V.int++[.int (n:Int)])) d=some (.lst j):=by rw[aH (ae2 v),bx u];exact m
 have E:=(aab.mp l).1;exists _,rfl,.inl (rfl,_,My.of r),_,rfl,b,_,_,rfl,rfl,r,?_
 ·rw[aaa,sizeLine_eq];lia
 refine(_,rfl,_,_,rfl,rfl,_,rfl,bC (λ_=>?_) λz=>absurd (decide_eq_true (show (0:Int)<=(n:Int) by lia)) z);refine(_,rfl,d,_,rfl,.inl (My.of p),_,_,rfl,rfl,_,rfl,bC (λ_=>?_) λz=>absurd (decide_eq_true (show (n:Int)<(j.length:Int) by lia)) z);exists _,rfl,_,rfl,d,_,_,_,rfl,rfl,My.of p,Gr l;show Q x (over H c (upd (hide H c) b (.lst (e.map V.int++[.int (n:Int)]))));rw[uZ k,mJ];rw[aal]at q;exact q
inductive Aj(Pt:Addr)(vs:List V)(H:Hp)(Q:VK)(_e1:XK):Prop
 | mk (bl sn:Addr) (_:vs=[.ref bl,.ref sn]) (_:TabAt H Pt (xP dU) bU.qual) (_:∀f cs H2,H f=none->vG Pt H H2->TabAt H2 Pt (xP dU) bU.qual->iH H2 f bU cs [.ref sn,.ref bl]->Q (.ref f) H2)
theorem Al(T:Tx K mg a)(B:Bs mg base a):aV P w K mg base S6 1 a.aem a.YX ["_law_blocks","_law_seen"] (Aj a.UV):=by
 refine T7.maker0 (T:=bU) (pos:=xP dU) T.aet.F rO Cg B.bm T.afs B.aft (λc H Q E h=>?_) rfl (λc H Q E h=>?_)
 ·obtain⟨s,b,rfl,_⟩:=h;rfl
 obtain⟨d,b,rfl,l,q⟩:=h;refine(l,[.ref b,.ref d],λj m e=>?_,rfl,λn o p k r i g f=>q n o p k i g f)
 match j,e with
 | 0,e=>cases e;exact(_,rfl,rfl)
 | 1,e=>cases e;exact(_,rfl,rfl)
 | j+2,e=>simp at e
theorem fH.weak{P:Program}{w:World}{K:PySem.W.Frag}{mg:Str->Option Value}{base:Heap}{k:Nat}{e d:Addr->Sp}(F:fH P w K mg base k e)(h:∀f c H Q,d f c H Q E0->e f c H Q E0):fH P w K mg base k d:=
 λf A b s H g c Q j l r i=>F f A b s H g c Q j l r (h f c H Q i)
inductive mz(R:Hp->LK->Prop)(f:Addr)(vs:List V)(H:Hp)(Q:VK)(_e1:XK):Prop
 | mk (L:LK) (ss:List Int) (n:Nat) (x:V) (sn:Addr) (_:f=L.f) (_:vs=[.int (n:Int)]) (_:R H L) (_:L.wr=some sn) (_:H sn=some (.lst (ss.map V.int))) (_:sn≠L.bl) (_:H L.bl=some (.lst L.all)) (_:ss.length<1000000) (_:L.all[L.off+n]?=some x) (_:Q x (L.put H (ss++[((L.off+n:Nat):Int)])))
theorem Ca(T:Tx K mg a):fH P w K mg base 1 (mz Uk):=fH.weak (Bo T) λf r H Q h=>by
 obtain⟨L,e,n,x,g,rfl,rfl,⟨l,p,m,d,o⟩,b,j,i,k,s,c,q⟩:=h;rw[d]at b;cases b;rw[l,agc]at c q;rw[LK.put_some d]at q;exact(g,L.bl,e,L.all,n,x,m,rfl,o,j,k,i,by lia,c,q)
theorem Cq(T:Tx K mg a):fH P w K mg base 2 (mz Ul):=by
 refine FP jE (λ_ _ _ _ C F=>match C,F with | [_],_=>rfl) λf R H Q h=>?_;obtain⟨L,d,n,x,j,rfl,rfl,⟨g,o,c,S,l,B⟩,k,e,O,y,m,p,q⟩:=h;have t:j∉c:=eO.outL l e;have D:L.bl∉c:=eO.outL l y;have b:Tx K mg a->fH P w K mg base 1 (mz Uk):=Ca;refine(rfl,c,[.ref g,.int (o:Int)],l,λU A r s E=>(_,(dH ((b T).mono (by decide)) E (i:=1) rfl (aa (aB bc (pv 2) (pv 0)) ak)),?_));have I:hide H c j=some (.lst (d.map V.int)):=by rw[bx t];exact e
 have G:hide H c L.bl=some (.lst L.all):=by rw[bx D];exact y
 obtain⟨u,J,z,N⟩:=(Uk.hasFn _ _ B).1;exists g,u,J,rfl,z,N,_,rfl,_,rfl,_,_,rfl,rfl,z,(g,L.wr,L.bl,L.off - o,L.all),d,o+n,x,j,rfl,?_,B,k,I,O,G,m,?_
 ·exact congrArg (λv=>[V.int v]) (by lia)
 ·show L.all[L.off - o+(o+n)]?=some x;rw[show L.off - o+(o+n)=L.off+n by lia];exact p
 have M:((g,L.wr,L.bl,L.off - o,L.all):LK).put (hide H c) (d++[((L.off - o+(o+n):Nat):Int)])=upd (hide H c) j (.lst ((d++[((L.off+n:Nat):Int)]).map V.int)):=by
  rw[LK.put_some (L:=(g,L.wr,L.bl,L.off - o,L.all)) k,show L.off - o+(o+n)=L.off+n by lia]
 show Q x (over H c (((g,L.wr,L.bl,L.off - o,L.all):LK).put (hide H c) (d++[((L.off - o+(o+n):Nat):Int)])));rw[M,uZ t,mJ];rw[LK.put_some k]at q;exact q
theorem Lw(T:Tx K mg a):fH P w K mg base 3 (mz VM):=by
 refine FP jE (λ_ _ _ _ C F=>match C,F with | [_],_=>rfl) λf R H Q h=>?_;obtain⟨L,d,n,x,j,rfl,rfl,⟨g,o,c,S,l,B⟩,k,e,O,y,m,p,q⟩:=h;have t:j∉c:=eO.outL l e;have D:L.bl∉c:=eO.outL l y;have b:Tx K mg a->fH P w K mg base 2 (mz Ul):=Cq;refine(rfl,c,[.ref g,.int (o:Int)],l,λU A r s E=>(_,(dH ((b T).mono (by decide)) E (i:=1) rfl (aa (aB bc (pv 2) (pv 0)) ak)),?_));have I:hide H c j=some (.lst (d.map V.int)):=by rw[bx t];exact e
 have G:hide H c L.bl=some (.lst L.all):=by rw[bx D];exact y
 obtain⟨u,J,z,N⟩:=(Ul.hasFn _ _ B).1;exists g,u,J,rfl,z,N,_,rfl,_,rfl,_,_,rfl,rfl,z,(g,L.wr,L.bl,L.off - o,L.all),d,o+n,x,j,rfl,?_,B,k,I,O,G,m,?_
 ·exact congrArg (λv=>[V.int v]) (by lia)
 ·show L.all[L.off - o+(o+n)]?=some x;rw[show L.off - o+(o+n)=L.off+n by lia];exact p
 have M:((g,L.wr,L.bl,L.off - o,L.all):LK).put (hide H c) (d++[((L.off - o+(o+n):Nat):Int)])=upd (hide H c) j (.lst ((d++[((L.off+n:Nat):Int)]).map V.int)):=by
  rw[LK.put_some (L:=(g,L.wr,L.bl,L.off - o,L.all)) k,show L.off - o+(o+n)=L.off+n by lia]
 show Q x (over H c (((g,L.wr,L.bl,L.off - o,L.all):LK).put (hide H c) (d++[((L.off - o+(o+n):Nat):Int)])));rw[M,uZ t,mJ];rw[LK.put_some k]at q;exact q
theorem cM(T:Tx K mg a):fH P w K mg base 3 N5:=λf A b s H k u Q m t r h=>by
 obtain⟨L,l,n,x,rfl,rfl,e,c,d,q⟩:=h;obtain⟨i,j⟩:=e.look.both.2;obtain⟨p,o⟩:=e.seen i j;rcases e.look with g|g|g
 ·exact((Ca T).mono (by decide)) L.f A b s H k _ Q m t r (L,l,n,x,i,rfl,rfl,g,j,p,o,e.nodes,c,d,q)
 ·exact((Cq T).mono (by decide)) L.f A b s H k _ Q m t r (L,l,n,x,i,rfl,rfl,g,j,p,o,e.nodes,c,d,q)
 ·exact(Lw T) L.f A b s H k _ Q m t r (L,l,n,x,i,rfl,rfl,g,j,p,o,e.nodes,c,d,q)
inductive yN(Pt:Addr)(vs:List V)(H:Hp)(Q:VK)(_e1:XK):Prop
 | mk (g:Addr) (off:Nat) (_:vs=[.ref g,.int (off:Int)]) (_:TabAt H Pt (cj bF) aQ.qual) (_:∀f cs H2,H f=none->(∀c∈cs,H c=none)->vG Pt H H2->TabAt H2 Pt (cj bF) aQ.qual->eO H2 f aQ cs [.ref g,.int (off:Int)]->Q (.ref f) H2)
theorem pC(T:Tx K mg a)(B:Bs mg base a):aV P w K mg base S6 1 a.adm a.YT ["look","first"] (yN a.TJ):=by
 refine T7.makerL0 (T:=aQ) (pos:=cj bF) T.Y4.F zW zE B.bm T.ae7 B.ae9 (λc H Q E h=>?_) rfl (λc H Q E h=>?_)
 ·obtain⟨t,s,rfl,_⟩:=h;rfl
 obtain⟨g,b,rfl,n,q⟩:=h;refine(n,[.ref g,.int (b:Int)],λj m e=>?_,rfl,λo p r l k i f d=>q o p r l k i f d)
 match j,e with
 | 0,e=>cases e;exact(_,rfl,rfl)
 | 1,e=>cases e;exact(_,rfl,rfl)
 | j+2,e=>simp at e
structure Ask(H:Hp)(t:Addr)(L:LK)(ah:Addr)(ns ss:List Int)(rest:List V):Prop where
 tab:Tab H t ah ns rest
 asks:Asks H L ss
 bits:aZ ns
 len:ns.length<=4096
 blk:∀n,n<many ns.length->L.all[L.off+n]?=some (.int (cB ns n))
theorem Ask.same{H H':Hp}{t:Addr}{L:LK}{d:Addr}{c b:List Int}{rest:List V}(h:Ask H t L d c b rest)(s:aO H H'):Ask H' t L d c b rest:=(h.tab.same s,h.asks.same s,h.bits,h.len,h.blk)
theorem Ask.more{H:Hp}{t:Addr}{L:LK}{c:Addr}{b d tt:List Int}{rest:List V}(h:Ask H t L c b d rest)(e:tt.length<=1000000):Ask (L.put H tt) t L c b tt rest:=
 ((h.asks.putT h.tab.tup,h.asks.putT h.tab.Uo,h.tab.few),h.asks.more e,h.bits,h.len,h.blk)
inductive bR(n:Nat)(k:Nat)(ss:List Int)(ss':List Int):Prop
 | mk (tt:List Int) (_:ss'=ss++tt) (_:tt.length<=k) (_:∀x∈tt,0<=x/\x<n)
theorem bR.none{n k:Nat}(b:List Int):bR n k b b:=([],by simp,by simp,nofun)
theorem bR.one{n:Nat}(b:List Int){i:Int}(e:0<=i)(d:i<n):bR n 1 b (b++[i]):=([i],rfl,by simp,λx c=>by rw[aaj.mp c];exact(e,d))
theorem bR.trans{n j k:Nat}{a b c:List Int}(h:bR n j a b)(h':bR n k b c):bR n (j+k) a c:=by
 obtain⟨t,rfl,l,m⟩:=h;obtain⟨u,rfl,f,e⟩:=h';refine(t++u,by rw[abm],by rw[aaf];lia,λx d=>?_);rcases abn.mp d with d|d
 ·exact m x d
 ·exact e x d
theorem bR.le{n j k:Nat}{a b:List Int}(h:bR n j a b)(c:j<=k):bR n k a b:=by
 obtain⟨t,e,l,m⟩:=h;exact(t,e,by lia,m)
theorem bR.len{n k:Nat}{a b:List Int}(h:bR n k a b):b.length<=a.length+k:=by
 obtain⟨t,rfl,l,m⟩:=h;rw[aaf];lia
theorem Ask.wr{t:Addr}{L:LK}(h:Ask H t L f d M l){n:Nat}(b:n<many d.length):bR L.all.length 1 M (M++[((L.off+n:Nat):Int)]):=by
 have:=(aab.mp (h.blk n b)).1;exact bR.one M (by lia) (by lia)
inductive Ek(vs:List V)(H:Hp)(Q:VK)(E:XK):Prop
 | mk (t:Addr) (L:LK) (ah:Addr) (ns ss:List Int) (rest:List V) (at0:Nat) (_:vs=[.ref t,.ref L.f,.int (at0:Int)]) (_:Ask H t L ah ns ss rest) (_:ss.length<1000000) (_:at0<=ns.length) (_:∀ss' H',bR L.all.length 1 ss ss'->aO (L.put H ss') H'->Q (.int (ns.take at0).sum) H')
theorem iY(T:Tx K mg a):aV P w K mg base S6 4 a.aeI a.ad8 ["tables","look","at"] Ek:=by
 refine T.Wt.F.S9 iV λI A n s H J Q E l h=>?_;obtain⟨t,L,x,g,k,rest,b,rfl,d,m,y,q⟩:=h;refine(_,(aj (aA 3 iV.nd (aW aU (pv 0) ao))
  (aj (aA 4 iV.nd (aW aU (pv 0) ao))
  (aj (bu (aF T.Wr (di T) l (aa (pv 2) (aa (pv 3) ak))))
  (aj (aA 5 iV.nd (aB bL (pv 2) (bG (v:=.int 32) rfl T.Uj (_,rfl))))
  (aj (aA 6 iV.nd (aB bT (pv 2) (bG (v:=.int 32) rfl T.Uj (_,rfl))))
  (aj (aX (aG cT (pv 6) ao) (aq (aD (aW aU (pv 4) (pv 5)))) aL)
  (aq (aD (aB bc (aW aU (pv 4) (pv 5)) (aF T.Y0 (vh T) l (aa (dH ((cM T).mono (by decide)) l (i:=1) rfl (aa (pv 5) ak)) (aa (pv 6) ak)))))))))))),?_)
 exists _,rfl,t,_,_,_,rfl,rfl,S7.of d.tab.tup,mU _ _ _ d.tab.few;exists _,rfl,t,_,_,_,rfl,rfl,S7.of d.tab.tup,pA _ _ _ d.tab.few;refine(_,rfl,_,rfl,_,_,rfl,by lia,by lia,?_);exists _,rfl,_,_,rfl,rfl,(by decide,by decide);exists _,rfl,_,_,rfl,rfl,(by show (0:Int)<32;decide);have r:(b:Int) / 32=((b / 32:Nat):Int):=by lia
 have j:Tz ((TQ g (many g.length)).map V.int) ((b:Int) / 32)=some (.int (g.take (32*(b / 32))).sum):=by
  rw[r];exact J0 (by unfold many;lia)
 refine(_,rfl,rfl,_,rfl,bC (λc=>?_) λc=>?_)
 ·have c:V.int ((b:Int)%32)=V.int 0:=of_decide_eq_true c;injection c with c
  exists _,rfl,_,rfl,x,_,_,_,rfl,rfl,S7.of d.tab.Uo,j;have:=q k H (bR.none k) (by rw[d.asks.id];exact aO.refl _);rw[show b=32*(b / 32)from by lia]at this;exact this
 have c:(b:Int)%32≠0:=λz=>c (decide_eq_true (congrArg V.int z));obtain⟨o,D,u,C⟩:=d.asks.look.fn;have p:b / 32<many g.length:=by
  unfold many;lia
 exists _,rfl,_,rfl,x,_,_,_,rfl,rfl,S7.of d.tab.Uo,j,L.f,o,D,rfl,u,C,_,rfl,u,L,k,b / 32,_,rfl,congrArg (λv=>[v]) (congrArg V.int r),d.asks,m,d.blk _ (by first|exact p|lia);refine(_,rfl,_,_,rfl,(show 0<=(b:Int)%32 from by lia),(show (b:Int)%32<=32 from by lia),λG B=>(_,_,rfl,rfl,?_));have:=q _ G (d.wr p) B;have e:(g.take b).sum=(g.take (32*(b / 32))).sum+ones (cB g (b / 32)) ((b:Int)%32).toNat:=by
  rw[mO d.bits _ _ (by lia)];congr 2;lia
 rw[e]at this;exact this
inductive HD(vs:List V)(H:Hp)(Q:VK)(E:XK):Prop
 | mk (t:Addr) (L:LK) (ah:Addr) (ns ss:List Int) (rest:List V) (at0:Nat) (_:vs=[.ref t,.ref L.f,.int (at0:Int)]) (_:Ask H t L ah ns ss rest) (_:ss.length<1000000) (_:at0<=ns.length) (_:∀ss' H',bR L.all.length 1 ss ss'->aO (L.put H ss') H'->Q (.int (ht ns at0)) H')
theorem xq(T:Tx K mg a):aV P w K mg base S6 5 a.afl a.aeM ["tables","look","at"] HD:=by
 refine T.Y9.F.S9 Iu λo A f s H p Q E k h=>?_;obtain⟨t,L,m,j,g,rest,e,rfl,l,d,b,q⟩:=h;exists _,(aq (aD (aB bz (aB cL ao (aF T.Wt (iY T) k (aa (pv 0) (aa (pv 1) (aa (pv 2) ak))))) (pv 2))));exact(_,rfl,_,rfl,_,rfl,t,L,m,j,g,rest,e,rfl,l,d,b,λc n w i=>(_,_,rfl,rfl,.inl (by decide,by decide),_,rfl,_,_,rfl,rfl,q c n w i))
inductive Ia(vs:List V)(H:Hp)(Q:VK)(E:XK):Prop
 | mk (t:Addr) (L:LK) (ah:Addr) (ns ss:List Int) (rest:List V) (at0:Nat) (b:Int) (_:vs=[.ref t,.ref L.f,.int (at0:Int)]) (_:Ask H t L ah ns ss rest) (_:ss.length<1000000) (_:ns[at0]?=some b) (_:∀ss' H',bR L.all.length 1 ss ss'->aO (L.put H ss') H'->Q (.int b) H')
theorem jL(T:Tx K mg a):aV P w K mg base S6 4 a.afj a.aeH ["tables","look","at"] Ia:=by
 refine T.Ws.F.S9 Je λz A j s H B Q E e h=>?_;obtain⟨t,L,C,k,r,rest,c,b,rfl,d,g,m,q⟩:=h;have p:=(aab.mp m).1;refine(_,(aj (bu (aF T.Wr (di T) e (aa (pv 2) (aa (aB bz (aW aU (pv 0) ao) ao) ak))))
  (aq (aD (aF T.XQ (qD T) e (aa (dH ((cM T).mono (by decide)) e (i:=1) rfl (aa (aB bL (pv 2) (bG (v:=.int 32) rfl T.Uj (_,rfl))) ak)) (aa (aB bT (pv 2) (bG (v:=.int 32) rfl T.Uj (_,rfl))) ak)))))),?_)
 refine(_,rfl,_,rfl,t,_,_,_,rfl,rfl,S7.of d.tab.tup,mU _ _ _ d.tab.few,_,_,rfl,rfl,_,_,rfl,by lia,by lia,?_);obtain⟨o,x,n,u⟩:=d.asks.look.fn;have l:c / 32<many k.length:=by
  unfold many;lia
 have y:(c:Int) / 32=((c / 32:Nat):Int):=by lia
 exists L.f,o,x,rfl,n,u,_,rfl,_,_,rfl,rfl,(by decide,by decide),n,L,r,c / 32,_,rfl,congrArg (λv=>[v]) (congrArg V.int y),d.asks,g,d.blk _ (by first|exact l|lia);exists _,rfl,_,_,rfl,rfl,(by show (0:Int)<32;decide),_,_,rfl,(show 0<=(c:Int)%32 from by lia);rw[show bit (cB k (c / 32)) ((c:Int)%32).toNat=b from by rw[show ((c:Int)%32).toNat=c%32 from by lia,bit_at d.bits _ _ (by lia),show 32*(c / 32)+c%32=c from by lia,m];rfl];exact q _ _ (d.wr l) (aO.refl _)
inductive QH(K:PySem.W.Frag)(vs:List V)(H:Hp)(Q:VK)(_e1:XK):Prop
 | mk (p:Addr) (ns:List Int) (goal:Int) (_:vs=[.ref p,.int goal]) (_:S7 K H p (ns.map V.int)) (_:0<ns.length) (_:ns.length<=4096) (_:∀lo:Nat,lo<ns.length->(lo=0 \/ ∃x,ns[lo]?=some x/\x<=goal)->(lo+1=ns.length \/ ∃x,ns[lo+1]?=some x/\goal<x)->Q (.int (lo:Int)) H)
theorem nO(T:Tx K mg a):aV P w K mg base S6 1 a.aaE a.aay ["numbers","goal"] (QH K):=by
 refine T.aaJ.F.S9 bN λJ A r s H L Q E M h=>?_;obtain⟨p,i,g,rfl,u,D,N,q⟩:=h;refine(_,(aj (aA 2 bN.nd ao)
  (aj (aA 3 bN.nd (aK aN rfl T.Th Tw.bh (aa (pv 0) ak)))
  (aj (mD PassesOwn.never (aG jf (aB bz (pv 3) (pv 2)) ao) (aj (aA 4 bN.nd (aB bL (aB bc (pv 2) (pv 3)) ao))
  (aq (aX (aG jj (aW aU (pv 0) (pv 4)) (pv 1)) (aq (aA 2 bN.nd (pv 4))) (aq (aA 3 bN.nd (pv 4)))))))
  (aq (aD (pv 2)))))),?_)
 exists _,rfl,p,_,rfl,.inr u;exists λm t B=>∃(b f:Nat) (k:Option V),t=[some (.ref p),some (.int g),some (.int (b:Int)),some (.int (f:Int)),k]/\B=H/\m=f - b/\b<f/\f<=i.length/\(b=0 \/ ∃x,i[b]?=some x/\x<=g)/\(f=i.length \/ ∃x,i[f]?=some x/\g<x),(_,0,i.length,none,?_,rfl,rfl,D,aac _,.inl rfl,.inl rfl)
 ·rw[aaa];rfl
 rintro m t B ⟨b,f,k,rfl,rfl,rfl,I,n,y,v⟩;refine(_,rfl,_,rfl,_,_,rfl,rfl,_,_,rfl,rfl,_,rfl,bC (λc=>?_) λc=>?_)
 ·have c:(1:Int)<(f:Int) - (b:Int):=of_decide_eq_true c;exists _,λ G O z=>z;have l:((b:Int)+(f:Int)) / 2=(((b+f) / 2:Nat):Int):=by lia
  have C:(b+f) / 2<i.length:=by lia
  have j:i[(b+f) / 2]?=some i[(b+f) / 2]:=aad C;have o:Tz (i.map V.int) (((b:Int)+(f:Int)) / 2)=some (.int i[(b+f) / 2]):=by
   rw[l];exact oO j
  exists _,rfl,_,rfl,_,_,rfl,rfl,_,_,rfl,rfl,(by decide,by decide);refine(_,rfl,_,rfl,p,_,_,_,rfl,rfl,u,o,_,rfl,_,_,rfl,rfl,_,rfl,bC (λd=>?_) λd=>?_)
  ·have d:=of_decide_eq_true d;refine(_,rfl,f - (b+f) / 2,by lia,(b+f) / 2,f,some (.int (((b:Int)+(f:Int)) / 2)),?_,rfl,rfl,by lia,n,.inr (_,j,d),v);rw[<-l];rfl
  ·have d:¬i[(b+f) / 2]<=g:=λz=>d (decide_eq_true z);refine(_,rfl,(b+f) / 2 - b,by lia,b,(b+f) / 2,some (.int (((b:Int)+(f:Int)) / 2)),?_,rfl,rfl,by lia,by lia,y,.inr (_,j,by lia));rw[<-l];rfl
 ·have c:¬(1:Int)<(f:Int) - (b:Int):=λz=>c (decide_eq_true z);have e:f=b+1:=by lia
  subst e;exact(_,rfl,q b (by lia) y v)
inductive yS(vs:List V)(H:Hp)(Q:VK)(E:XK):Prop
 | mk (nth many:Int) (_:vs=[.int nth,.int many]) (_:0<=nth) (_:nth<many) (_:Q .non H)
theorem zL(T:Tx K mg a):aV P w K mg base S6 1 a.adt a.acN ["nth","many"] yS:=by
 refine T.adN.F.S9 zV λg A d s H i Q E j h=>?_;obtain⟨e,f,rfl,l,k,q⟩:=h;exists _,(aq (aX (PW.pt (nu (aG jH (pv 0) ao) (kI (aG z8 (pv 0) (pv 1))))) (aq bW) aL));refine(_,rfl,_,_,rfl,rfl,_,rfl,bC (λc=>?_) λc=>?_)
 ·have c:=of_decide_eq_true c;lia
 refine(_,rfl,_,rfl,_,_,rfl,rfl,_,rfl,bC (λb=>?_) λb=>?_)
 ·have b:=of_decide_eq_true b;lia
 exact q
inductive yF(vs:List V)(H:Hp)(Q:VK)(E:XK):Prop
 | mk (t:Addr) (L:LK) (ah:Addr) (ns ss:List Int) (rest:List V) (nth:Int) (_:vs=[.ref t,.ref L.f,.int nth]) (_:Ask H t L ah ns ss rest) (_:ss.length<1000000) (_:0<=nth) (_:nth<ns.sum) (_:∀(H':Hp) (p:Nat) (ss':List Int),ns[p]?=some 1->(ns.take p).sum=nth->bR L.all.length 1 ss ss'->aO (L.put H ss') H'->Q (.int (p:Int)) H')
theorem za(T:Tx K mg a):aV P w K mg base S6 4 a.adq a.acM ["tables","look","nth"] yF:=by
 refine T.adM.F.S9 j8 λa0 A N s H vs Q E p h=>?_;obtain⟨t,L,y,b,Y,rest,d,rfl,R,B,S,Z,q⟩:=h;have ht:=R.tab.tup;have z:=R.tab.Uo;have r:=R.bits;have hl:=R.len;have hM:many b.length<=128:=by
  unfold many;lia
 have g:b.take (32*many b.length)=b:=aai (by unfold many;lia);have D:Tz ((TQ b (many b.length)).map V.int) (-1)=some (.int b.sum):=by
  rw[JT,aal,g];exact lA _ _
 refine(_,(aj (aA 3 j8.nd (aW aU (pv 0) ao))
  (aj (bu (aF T.adN (zL T) p (aa (pv 2) (aa (aW aU (pv 3) (lC jc ao)) ak))))
  (aj (aA 4 j8.nd (aF T.aaJ (nO T) p (aa (pv 3) (aa (pv 2) ak))))
  (aq (aD (aB bc (aB cL (bG (v:=.int 32) rfl T.Uj (_,rfl)) (pv 4)) (aF T.afo (HS T) p (aa (dH ((cM T).mono (by decide)) p (i:=1) rfl (aa (pv 4) ak)) (aa (aB bz (pv 2) (aW aU (pv 3) (pv 4))) ak))))))))),?_)
 exists _,rfl,t,_,_,_,rfl,rfl,S7.of ht,pA _ _ _ R.tab.few;exists _,rfl,_,rfl,_,rfl,y,_,_,_,rfl,rfl,S7.of z,D,_,_,rfl,S,Z;refine(_,rfl,_,rfl,y,_,_,rfl,S7.of z,(by rw[dZ];lia),(by rw[dZ];lia),λc C j m=>?_);rw[dZ]at C m;have n:c<many b.length:=by
  rcases m with m|⟨x,e,_⟩
  ·have e:c=many b.length:=by lia
   rcases j with j|⟨x,l,j⟩
   ·have e3:many b.length=0:=by lia
    have:b.sum=0:=by
     rw[<-g,e3];rfl
    lia
   ·rw[o8 (by lia)]at l;cases l;rw[e,g]at j;lia
  ·have:=(aab.mp e).1;rw[dZ]at this;lia
 have d1:(b.take (32*c)).sum<=d:=by
  rcases j with j|⟨x,l,j⟩
  ·subst j;exact S
  ·rw[o8 (by lia)]at l;cases l;exact j
 have d2:d<(b.take (32*c+32)).sum:=by
  rcases m with m|⟨x,l,m⟩
  ·lia
  ·rw[o8 (by lia)]at l;cases l;exact m
 have M:Tz ((TQ b (many b.length)).map V.int) (c:Int)=some (.int (b.take (32*c)).sum):=oO (o8 (by lia));have sb:=mO r c 32 (by lia);obtain⟨k0,J,I,G⟩:=K1 (cB b c) (d - (b.take (32*c)).sum) (by lia) 32 (by lia);obtain⟨o,fd,W,g1⟩:=R.asks.look.fn;exists _,rfl,_,_,rfl,rfl,.inl (by decide,by decide),L.f,o,fd,rfl,W,g1,_,rfl,W,L,Y,c,_,rfl,rfl,R.asks,B,R.blk _ (by first|exact hm|lia);exists _,rfl,_,rfl,_,rfl,y,_,_,_,rfl,rfl,S7.of (R.asks.putT z),M,_,_,rfl,rfl;refine(_,_,rfl,λX O k hk u U=>?_,λX O no=>absurd (I,G) (no k0 J));exists _,_,rfl,rfl;have u:bit (cB b c) k=1:=u;have U:ones (cB b c) k=d - (b.take (32*c)).sum:=U;have hp:b[32*c+k]?=some 1:=by
  have:=bit_at r c k hk;rw[u]at this;cases e:b[32*c+k]? with
  | none=>rw[e]at this;cases this
  | some x =>
   rw[e]at this;have this:1=x:=this;rw[this]
 have hs:(b.take (32*c+k)).sum=d:=by
  have:=mO r c k (by lia);lia
 have:=q X (32*c+k) _ hp hs (R.wr n) O;rw[show ((32*c+k:Nat):Int)=32*(c:Int)+(k:Int)from by lia]at this;exact this
theorem eO.out{f b:Addr}{c:o7}{cs:List Addr}{Tc:List V}{xs:List V}(h:eO H f c cs Tc)(e:H b=some (.tup xs)):b∉cs:=λz=>by
 obtain⟨i,g⟩:=abk z;obtain⟨j,v,u,_,d,_⟩:=h.cells i b g;rw[e]at d;cases d
def Quiet(H:Hp)(f b:Addr)(xs:List V):Prop:=(∃c,eO H f aY c [.ref b])/\H b=some (.tup xs)
theorem Quiet.fn{f :Addr}{xs:List V}(h:Quiet H f C xs):∃o fd,H f=some (aM f o)/\o.data=.func fd:=by
 obtain⟨⟨j,c⟩,_⟩:=h;obtain⟨k,g,d,i,e,t,b,_⟩:=c.ex;exact(_,_,b,rfl)
theorem Quiet.same{H H':Hp}{f c:Addr}{xs:List V}(h:Quiet H f c xs)(s:aO H H'):Quiet H' f c xs:=by
 obtain⟨⟨g,i⟩,d⟩:=h;exact((g,i.same λb o e=>s _ _ e),s _ _ d)
inductive qF(f:Addr)(vs:List V)(H:Hp)(Q:VK)(_e1:XK):Prop
 | mk (nd:Addr) (xs:List V) (n:Nat) (x:V) (_:vs=[.int (n:Int)]) (_:Quiet H f nd xs) (_:xs[n]?=some x) (_:Q x H)
theorem fL(T:Tx K mg a):fH P w K mg base 1 qF:=by
 refine FP qX (λ_ _ _ _ j l=>match j,l with | [_],_=>rfl) λf p H Q h=>?_;obtain⟨c,i,n,x,rfl,⟨⟨b,g⟩,e⟩,m,q⟩:=h;have k:=eO.out g e;refine(rfl,b,[.ref c],g,λt A d s r=>(_,(aW aU (pv 1) (pv 0)),?_));have o:hide H b c=some (.tup i):=by rw[bx k];exact e
 exists _,rfl,_,rfl,c,_,_,_,rfl,rfl,S7.of o,Gr m;show Q x (over H b (hide H b));rw[mJ];exact q
inductive zZ(Pt:Addr)(vs:List V)(H:Hp)(Q:VK)(_e1:XK):Prop
 | mk (t nd:Addr) (x y:V) (xs:List V) (_:vs=[.ref t]) (_:H t=some (.tup [x,y,.ref nd])) (_:H nd=some (.tup xs)) (_:TabAt H Pt (cj bQ) aY.qual) (_:∀f H2,H f=none->vG Pt H H2->TabAt H2 Pt (cj bQ) aY.qual->Quiet H2 f nd xs->Q (.ref f) H2)
theorem pD(T:Tx K mg a)(B:Bs mg base a):aV P w K mg base S6 1 a.adu a.YW ["tables"] (zZ a.Tr):=by
 refine T7.makerL1 (T:=aY) (pos:=cj bQ) T.Y8.F o5 yV B.bm T.ae8 B.afa (λl H Q E h=>?_) rfl (λz A b s H l Q E D h=>?_)
 ·obtain⟨t,c,x,y,k,rfl,_⟩:=h;rfl
 obtain⟨t,c,x,y,k,rfl,ht,f,g,q⟩:=h;exists _,(q9 (i:=1) o5.nd rfl (ahs rfl) (aW aU (pv 0) ao));exists _,rfl,t,_,_,_,rfl,rfl,S7.of ht,rfl;refine(g,[.ref c],λj m e=>?_,rfl,λr u v p C d o n=>q r v p d o ((u,n),d _ _ f (TabAt.ne g f nofun)))
 match j,e with
 | 0,e=>cases e;exact(_,rfl,rfl)
 | j+1,e=>simp at e
inductive Ep(vs:List V)(H:Hp)(Q:VK)(_e1:XK):Prop
 | mk (f nd:Addr) (xs:List V) (ns:List Int) (S s n a0 e:Nat) (g:Int) (_:vs=[.int (S:Int),.ref f,.int (n:Int),.int g,.int (s:Int)]) (_:Quiet H f nd xs) (_:jg ns S 1 xs) (_:ns.length<=S) (_:s<=1) (_:n*2^e=S+a0) (_:a0+2^e<=ns.length) (_:1<=n) (_:pR xs n<=g) (_:∀i:Nat,Xx ns s a0 (a0+2^e) g i->Q (.int (i:Int)) H)
theorem jJ(T:Tx K mg a):aV P w K mg base S6 2 a.aa1 a.aaN ["size","look","node","goal","side"] Ep:=by
 refine T.Y5.F.S9 dD λa2 A D s H vs Q E X h=>?_;obtain⟨f,U,J,R,S,j,n,C,e,g,rfl,L,p,l,r,Y,t,h1,hg,q⟩:=h;refine(_,(aj (aA 5 dD.nd (pv 2))
  (aj (mD PassesOwn.never (aG jH (pv 5) (pv 0)) (aj (aA 5 dD.nd (aB bc (aB cL ao (pv 5)) (pv 4)))
  (aq (aX (aG jf (dH ((fL T).mono (by decide)) X (i:=1) rfl (aa (pv 5) ak)) (pv 3)) (aq (aA 5 dD.nd (aB bz (aB bc (pv 5) ao) (aB cL ao (pv 4))))) aL))))
  (aq (aD (aB bz (pv 5) (pv 0)))))),?_)
 exists _,rfl;refine(λm G N=>∃(k d b:Nat),G=[some (.int (S:Int)),some (.ref f),some (.int (n:Int)),some (.int g),some (.int (j:Int)),some (.int (k:Int))]/\m=d/\w5 R J S j C (C+2^e) g d k b/\N=H,
  (_,n,e,C,rfl,rfl,w5.start Y h1 hg,rfl),?_)
 rintro d G N ⟨k,_,b,rfl,rfl,hd,rfl⟩;refine(_,rfl,_,rfl,_,_,rfl,rfl,_,rfl,bC (λc=>?_) λc=>?_)
 ·have c:(k:Int)<(S:Int):=of_decide_eq_true c;rcases d with _|d
  ·have:=(hd.hit p l t r).1;lia
  obtain⟨v,I,W,kb,d1,d2⟩:=hd.step p l t r;exists _,λ a1 H2 z=>z;exists _,rfl,_,_,rfl,rfl,.inl (by decide,by decide),_,rfl,_,_,rfl,rfl;obtain⟨o,fd,M,g1⟩:=L.fn;have u:(2:Int)*(k:Int)+(j:Int)=((2*k+j:Nat):Int):=by lia
  have O:=hd.one;exists f,o,fd,rfl,M,g1,_,rfl,M,U,J,2*k+j,_,?_,L,I
  ·exact congrArg (λv=>[v]) (congrArg V.int u)
  refine(_,rfl,_,_,rfl,rfl,_,rfl,bC (λz=>?_) λz=>?_)
  ·have z:g<v:=of_decide_eq_true z;obtain⟨B,x⟩:=d2 z;refine(_,rfl,_,_,rfl,rfl,_,rfl,_,_,rfl,rfl,.inl (by decide,by decide),_,_,rfl,rfl,d,by lia,2*k+1 - j,d,B,?_,rfl,x,rfl);rw[show ((2*k+1 - j:Nat):Int)=2*(k:Int)+(j:Int)+1 - 2*(j:Int)from by lia];rfl
  ·have z:¬g<v:=λy=>z (decide_eq_true y);obtain⟨B,x⟩:=d1 (by lia);refine(d,by lia,2*k+j,d,B,?_,rfl,x,rfl);rw[<-u];rfl
 ·have c:¬(k:Int)<(S:Int):=λy=>c (decide_eq_true y);rcases d with _|d
  ·obtain⟨u,Z⟩:=hd.hit p l t r;exists _,rfl,_,rfl,_,_,rfl,rfl;have:=q b Z;rw[show (b:Int)=(k:Int) - (S:Int)from by lia]at this;exact this
  ·obtain⟨v,I,W,_⟩:=hd.step p l t r;lia
inductive JG(vs:List V)(H:Hp)(Q:VK)(_e1:XK):Prop
 | mk (f nd:Addr) (xs:List V) (ns:List Int) (S st:Nat) (g:Int) (_:vs=[.int (ns.length:Int),.ref f,.int (st:Int),.int g]) (_:Quiet H f nd xs) (_:ir ns.length S) (_:jg ns S 1 xs) (_:ns.length<=4096) (_:st<=ns.length) (_:∀(x:V) (H':Hp),aO H H'->((x=.non /\ ∀j c,st<=j->ns[j]?=some c->g<c) \/ ∃i:Nat,x=.int (i:Int)/\Xx ns 0 st ns.length g i)->Q x H')
theorem qN(T:Tx K mg a):aV P w K mg base S6 3 a.aaZ a.aaM ["many","look","start","goal"] JG:=by
 refine T.abe.F.S9 jG λa4 A a2 s H vs Q E J h=>?_;obtain⟨f,nd,I,d,S,k,g,rfl,hA,L,U,hl,h1,q⟩:=h;refine(_,(aj (bI PassesOwn.never rfl (bO (aF T.Y6 (Bd T) J (aa (pv 0) (aa (pv 2) (aa (pv 0) ak))))) (aR 4 jG.nd) (aq (aX (aG jj (dH ((fL T).mono (by decide)) J (i:=1) rfl (aa (pv 4) ak)) (pv 3)) (aq (aD (aF T.Y5 (jJ T) J (aa (aF T.Wq (iW T) J (aa (pv 0) ak)) (aa (pv 1) (aa (pv 4) (aa (pv 3) (aa ao ak)))))))) aL)))
  (aq (aD dY))),?_)
 have a0:=L.pos;obtain⟨h,eS,t,hj⟩:=id L;refine(_,rfl,_,rfl,_,rfl,d.length,k,d.length,rfl,h1,aac _,hl,λl r H1 a1 a3 Y D=>?_);have:=ir.uniq a1 L;subst this;have ch:=rQ (st:=k) (h,eS) h1 t a0;obtain⟨_,v1,_,_⟩:=nQ U t (aac _) ch (aac _);have X:=hA.same Y;exists r,rfl,(_,My.of D);refine b7 (xs:=nats (cover l k d.length)) (λi G N=>(∃O,G=[some (.int (d.length:Int)),some (.ref f),some (.int (k:Int)),some (.int g),O])/\N=H1 /\ ∃(b:Nat),Chain l k d.length ((cover l k d.length).drop i) (l+b) (l+d.length)/\k<=b /\ ∀j c,k<=j->j<b->d[j]?=some c->g<c) ((none,rfl),rfl,k,ch,aac _,λj c v R=>by lia) ?_ ?_ ?_
 ·rintro i G N _ ⟨_,rfl,_⟩;exact My.of D
 ·rintro i x G N B ⟨⟨O,rfl⟩,rfl,b,C,hb,m⟩;unfold nats at B;rw[aah]at B;obtain⟨n,V,rfl⟩:∃n,(cover l k d.length)[i]?=some n/\x=.int (n:Int):=by
   cases e:(cover l k d.length)[i]? with
   | none=>rw[e]at B;cases B
   | some n=>rw[e]at B;exact(n,rfl,(aap B).symm)
  have hi:=(aab.mp V).1;have hd:(cover l k d.length).drop i=n::(cover l k d.length).drop (i+1):=by
   rw[abV hi];congr 1;exact(aab.mp V).2
  rw[hd]at C;obtain⟨e,W,⟨n1,n2,n3,n4⟩,Ww⟩:=C;have hp:0<2^e:=afS e;have e5:(n+1)*2^e=l+(b+2^e):=by rw[agL,W];lia
  rw[e5]at Ww n3;obtain⟨w1,w2,w3⟩:=v1 n (aag V);obtain⟨M,m1,m2,m3⟩:=U.least t e n b W (by lia) n1;have ev:=il m1;obtain⟨o,fd,e1,g1⟩:=X.fn;exists f,o,fd,rfl,e1,g1,_,rfl,e1,nd,I,n,_,rfl,X,w3;refine(_,rfl,_,_,rfl,rfl,_,rfl,bC (λz=>?_) λz=>?_)
  ·have z:pR I n<=g:=of_decide_eq_true z;refine(_,rfl,d.length,rfl,by lia,λS2 Z=>?_);have:=ir.uniq Z L;subst this;refine(_,rfl,_,rfl,_,rfl,f,nd,I,d,S2,0,n,b,e,g,rfl,X,U,t,by decide,W,by lia,n1,z,λp Zw=>?_);refine q _ _ Y (.inr (p,rfl,?_));obtain⟨p1,p2,p3,p4⟩:=Zw;refine(by lia,by lia,p3,λj c v R j3 u=>?_);rw[if_pos rfl]at j3;rcases aas j b with y|y
   ·exact m j c v y u
   ·exact p4 j c y (by lia) (by rw[if_pos rfl];exact j3) u
  ·have z:¬pR I n<=g:=λy=>z (decide_eq_true y);refine((_,rfl),rfl,b+2^e,Ww,by lia,λj c v R u=>?_);rcases aas j b with y|y
   ·exact m j c v y u
   ·have:=m3 j c y R u;lia
 ·rintro G N ⟨⟨O,rfl⟩,rfl,b,C,hb,m⟩;have e0:(nats (cover l k d.length)).length=(cover l k d.length).length:=aaa ..;rw[e0,ahi]at C;have C:l+b=l+d.length:=C;refine q _ _ Y (.inl (rfl,λj c v u=>?_));have:=(aab.mp u).1;exact m j c v (by lia) u
inductive M8(vs:List V)(H:Hp)(Q:VK)(_e1:XK):Prop
 | mk (f nd:Addr) (xs:List V) (ns:List Int) (S sp:Nat) (g:Int) (_:vs=[.int (ns.length:Int),.ref f,.int (sp:Int),.int g]) (_:Quiet H f nd xs) (_:ir ns.length S) (_:jg ns S 1 xs) (_:ns.length<=4096) (_:sp<=ns.length) (_:∀(x:V) (H':Hp),aO H H'->((x=.non /\ ∀j c,j<sp->ns[j]?=some c->g<c) \/ ∃i:Nat,x=.int (i:Int)/\Xx ns 1 0 sp g i)->Q x H')
theorem sV(T:Tx K mg a):aV P w K mg base S6 3 a.abx a.aa0 ["many","look","stop","goal"] M8:=by
 refine T.abN.F.S9 kZ λa6 A a4 s H vs Q E O h=>?_;obtain⟨f,nd,L,C,S,k,g,rfl,hA,R,X,hl,h1,q⟩:=h;refine(_,(aj (bI PassesOwn.never rfl (J5 rfl T.Zi (aa (aF T.Y6 (Bd T) O (aa (pv 0) (aa ao (aa (pv 2) ak)))) ak) Tw.lD) (aR 4 kZ.nd) (aq (aX (aG jj (dH ((fL T).mono (by decide)) O (i:=1) rfl (aa (pv 4) ak)) (pv 3)) (aq (aD (aF T.Y5 (jJ T) O (aa (aF T.Wq (iW T) O (aa (pv 0) ak)) (aa (pv 1) (aa (pv 4) (aa (pv 3) (aa ao ak)))))))) aL)))
  (aq (aD dY))),?_)
 have a2:=R.pos;obtain⟨h,eS,v,hj⟩:=id R;refine(_,rfl,_,rfl,C.length,0,k,rfl,aaK _,h1,hl,λd r H1 a3 a5 Tg I=>?_);have:=ir.uniq a3 R;subst this;have ch:=rQ (st:=0) (h,eS) (aaK k) (by lia) a2;obtain⟨_,v1,_,_⟩:=nQ X v h1 ch (aac _);have Vc:=hA.same Tg;have e0:(nats (cover d 0 k)).length=(cover d 0 k).length:=aaa ..;exists r,_,rfl,My.of I;refine G4 (xs:=nats (cover d 0 k)) (λi J U=>(∃W,J=[some (.int (C.length:Int)),some (.ref f),some (.int (k:Int)),some (.int g),W])/\U=H1 /\ ∃(b:Nat),Chain d 0 k ((cover d 0 k).take ((cover d 0 k).length - i)) (d+0) (d+b)/\b<=k /\ ∀j c,b<=j->j<k->C[j]?=some c->g<c) ((none,rfl),rfl,k,by rw[agA,ago];exact ch,aac _,λj c D N=>by lia) ?_ ?_ ?_
 ·rintro i J U _ ⟨_,rfl,_⟩;exact My.of I
 ·rintro i x J U hi t ⟨⟨W,rfl⟩,rfl,b,G,hb,l⟩;rw[e0]at hi t;unfold nats at t;rw[aah]at t;obtain⟨n,hn,rfl⟩:∃n,(cover d 0 k)[(cover d 0 k).length - 1 - i]?=some n/\x=.int (n:Int):=by
   cases e:(cover d 0 k)[(cover d 0 k).length - 1 - i]? with
   | none=>rw[e]at t;cases t
   | some n=>rw[e]at t;exact(n,rfl,(aap t).symm)
  have et:(cover d 0 k).take ((cover d 0 k).length - i)=(cover d 0 k).take ((cover d 0 k).length - (i+1))++[n]:=by
   rw[show (cover d 0 k).length - i=((cover d 0 k).length - (i+1))+1 from by lia,abW,show (cover d 0 k).length - (i+1)=(cover d 0 k).length - 1 - i from by lia,hn];rfl
  obtain⟨y,V,y2⟩:=rR ((cover d 0 k).length - (i+1)) G;have m:((cover d 0 k).take ((cover d 0 k).length - (i+1))).length=(cover d 0 k).length - (i+1):=by
   rw[aaI];lia
  rw[et,ahl (by rw[m];exact aac _),aai (by rw[m];exact aac _)]at V;rw[et,List.drop_append_of_le_length (by rw[m];exact aac _),ae5 (by rw[m];exact aac _),ag1]at y2;obtain⟨e,Y,⟨n1,n2,n3,n4⟩,Z⟩:=y2;have hy:=De V;obtain⟨B,rfl⟩:∃B,y=d+B:=(y - d,by lia);have hp:0<2^e:=afS e;have e5:(n+1)*2^e=d+(B+2^e):=by rw[agL,Y];lia
  have Z:(n+1)*2^e=d+b:=Z;rw[e5]at Z n3;obtain⟨w1,w2,w3⟩:=v1 n (aag hn);obtain⟨M,m1,m2,m3⟩:=X.least v e n B Y (by lia) n1;have ev:=il m1;obtain⟨o,fd,e1,g1⟩:=Vc.fn;exists f,o,fd,rfl,e1,g1,_,rfl,e1,nd,L,n,_,rfl,Vc,w3;refine(_,rfl,_,_,rfl,rfl,_,rfl,bC (λz=>?_) λz=>?_)
  ·have z:pR L n<=g:=of_decide_eq_true z;refine(_,rfl,C.length,rfl,by lia,λS2 a1=>?_);have:=ir.uniq a1 R;subst this;refine(_,rfl,_,rfl,_,rfl,f,nd,L,C,S2,1,n,B,e,g,rfl,Vc,X,v,by decide,Y,by lia,n1,z,λp Zw=>?_);refine q _ _ Tg (.inr (p,rfl,?_));obtain⟨p1,p2,p3,p4⟩:=Zw;refine(aaK _,by lia,p3,λj c D N j3 u=>?_);rw[if_neg (by decide)]at j3;rcases aas j b with y|y
   ·exact p4 j c (by lia) (by lia) (by rw[if_neg (by decide)];exact j3) u
   ·exact l j c y N u
  ·have z:¬pR L n<=g:=λy=>z (decide_eq_true y);refine((_,rfl),rfl,B,V,by lia,λj c D N u=>?_);rcases aas j b with y|y
   ·have:=m3 j c D (by lia) u;lia
   ·exact l j c y N u
 ·rintro J U ⟨⟨W,rfl⟩,rfl,b,G,hb,l⟩;rw[e0,ag0,ah4]at G;have G:d+0=d+b:=G;exact q _ _ Tg (.inl (rfl,λj c D u=>l j c (by lia) D u))
structure BP where
 t:Addr
 L:LK
 ah:Addr
 nd:Addr
 ns:List Int
 lows:List Int
 S:Nat
 xs:List V
structure T5(H:Hp)(Ph:Addr)(p:BP)(ss:List Int):Prop where
 ask:Ask H p.t p.L p.ah p.ns ss [.ref p.nd]
 Vu:H p.nd=some (.tup p.xs)
 low:DP p.ns p.lows
 sz:ir p.lows.length p.S
 heap:jg p.lows p.S 1 p.xs
 tab:TabAt H Ph (cj bQ) aY.qual
structure Did(H H':Hp)(Ph:Addr)(L:LK)(k:Nat)(ss ss':List Int):Prop where
 kp:∀b o,H b=some o->b≠Ph->L.wr≠some b->H' b=some o
 seen:∀sn,L.wr=some sn->H' sn=some (.lst (ss'.map V.int))
 tab:TabAt H' Ph (cj bQ) aY.qual
 wr:bR L.all.length k ss ss'
theorem Did.trans{H l i:Hp}{d:Addr}{L:LK}{j k:Nat}{a b c:List Int}(h:Did H l d L j a b)(h':Did l i d L k b c):Did H i d L (j+k) a c:=
 (λx o e g f=>h'.kp x o (h.kp x o e g f) g f,h'.seen,h'.tab,h.wr.trans h'.wr)
theorem Did.le{H d:Hp}{c:Addr}{L:LK}{j k:Nat}{a b:List Int}(h:Did H d c L j a b)(e:j<=k):Did H d c L k a b:=(h.kp,h.seen,h.tab,h.wr.le e)
theorem Did.same{H f d:Hp}{c:Addr}{L:LK}{j:Nat}{a b:List Int}(h:Did H f c L j a b)(s:aO f d):Did H d c L j a b:=
 (λx o e k i=>s _ _ (h.kp x o e k i),λg e=>s _ _ (h.seen g e),TabAt.same h.tab s,h.wr)
theorem T5.self{p:BP}(h:T5 H f p d):Did H H f p.L 0 d d:=(λ_ _ e _ _=>e,λb e=>(h.ask.asks.seen b e).1,h.tab,bR.none d)
theorem TabAt.put{P:Addr}{pos:Pos}{q:Str}{L:LK}{tt:List Int}(h:TabAt H P pos q)(a:Asks H L d):TabAt (L.put H tt) P pos q:=by
 cases e:L.wr with
 | none =>
  rw[LK.put_none e];exact h
 | some b =>
  rw[LK.put_some e];exact TabAt.upd h (a.seen b e).1
theorem T5.look{H':Hp}{p:BP}(h:T5 H f p d){k:Nat}(w:bR p.L.all.length k d M)(s:aO (p.L.put H M) H'):Did H H' f p.L k d M:=
 (λx o e g b=>s _ _ (by rw[LK.put_ne b];exact e),λc e=>s _ _ (by rw[LK.put_some e];exact au),TabAt.same (TabAt.put h.tab h.ask.asks) s,w)
theorem T5.did{H':Hp}{p:BP}{k:Nat}(h:T5 H f p d)(c:Did H H' f p.L k d M)(t:M.length<=1000000):T5 H' f p M:=by
 have l:∀b o,H b=some o->(∀g,o ≠ .Tf g)->b≠f:=λb o e n=>TabAt.ne h.tab e n;have m:∀b o,H b=some o->(∀g,o ≠ .lst g)->p.L.wr≠some b:=λb o e n z=>by
  rw[(h.ask.asks.seen b z).1]at e;cases e;exact n _ rfl
 have i:∀b o,H b=some o->(∀g,o ≠ .Tf g)->(∀g,o ≠ .lst g)->H' b=some o:=λb o e s r=>c.kp b o e (l b o e s) (m b o e r);have q:p.L.wr≠some p.L.bl:=λz=>(h.ask.asks.seen _ z).2 rfl;have u:=c.kp _ _ h.ask.asks.nodes (l _ _ h.ask.asks.nodes nofun) q;exact(((i _ _ h.ask.tab.tup nofun nofun,i _ _ h.ask.tab.Uo nofun nofun,h.ask.tab.few),(h.ask.asks.look.kept i,λj e=>(c.seen j e,(h.ask.asks.seen j e).2),u,t),h.ask.bits,h.ask.len,h.ask.blk),i _ _ h.Vu nofun nofun,h.low,h.sz,h.heap,c.tab)
theorem T5.same{H H':Hp}{c:Addr}{p:BP}{b:List Int}(h:T5 H c p b)(s:aO H H'):T5 H' c p b:=(h.ask.same s,s _ _ h.Vu,h.low,h.sz,h.heap,TabAt.same h.tab s)
theorem T5.lenL{p:BP}(h:T5 H f p d):p.lows.length=many p.ns.length/\many p.ns.length<=128:=(h.low.len,by have:=h.ask.len;unfold many;lia)
theorem T5.made{H':Hp}{p:BP}(h:T5 H f p d)(b:vG f H H')(t:TabAt H' f (cj bQ) aY.qual):Did H H' f p.L 0 d d:=
 (λx o e g _=>b x o e g,λc e=>b _ _ (h.ask.asks.seen c e).1 (TabAt.ne h.tab (h.ask.asks.seen c e).1 nofun),t,bR.none d)
inductive tU(vs:List V)(H:Hp)(Q:VK)(_e1:XK):Prop
 | mk (j at0:Nat) (_:vs=[.int (j:Int),.int (at0:Int)]) (_:Q (.int ((at0 - 32*j:Nat):Int)) H)
theorem tG(T:Tx K mg a):aV P w K mg base S6 1 a.abz a.aa4 ["number","at"] tU:=by
 refine T.abO.F.S9 tE λd A c s H f Q E g h=>?_;obtain⟨j,b,rfl,q⟩:=h;exists _,(aq (aD (aK (HH rfl) rfl T.afQ Tw.Pz (aa (aB bz (pv 1) (aB cL (bG (v:=.int 32) rfl T.Uj (_,rfl)) (pv 0))) (aa ao ak)))));exists _,rfl,_,rfl,_,_,rfl,rfl,.inl (by decide,by decide),_,_,rfl,rfl,_,_,rfl;have e:(if (b:Int) - 32*(j:Int)<0 then (0:Int)else (b:Int) - 32*(j:Int))=((b - 32*j:Nat):Int):=by
  split <;> lia
 rw[<-e]at q;exact q
inductive vJ(vs:List V)(H:Hp)(Q:VK)(_e1:XK):Prop
 | mk (t ah:Addr) (ns:List Int) (rest:List V) (_:vs=[.ref t]) (_:Tab H t ah ns rest) (_:Q (.int (many ns.length:Nat)) H)
theorem lK(T:Tx K mg a):aV P w K mg base S6 1 a.ab6 a.abA ["tables"] vJ:=by
 refine T.Y7.F.S9 vW λg A d s H i Q E j h=>?_;obtain⟨t,f,b,rest,rfl,c,q⟩:=h;exists _,(aq (aD (aB bz (aK aN rfl T.Th Tw.bh (aa (aW aU (pv 0) ao) ak)) ao)));exists _,rfl,t,_,_,_,rfl,rfl,S7.of c.tup,pA _ _ _ c.few,f,_,rfl,.inr (S7.of c.Uo),_,_,rfl,rfl;have e:(((TQ b (many b.length)).map V.int).length:Int) - 1=((many b.length:Nat):Int):=by
  rw[aaa,dZ];lia
 rw[<-e]at q;exact q
inductive tL(vs:List V)(H:Hp)(Q:VK)(_e1:XK):Prop
 | mk (j:Nat) (x:V) (_:vs=[.int (j:Int),x]) (_:((x=.non/\Q .non H) \/ ∃k:Nat,x=.int (k:Int)/\Q (.int ((32*j+k:Nat):Int)) H))
theorem kY(T:Tx K mg a):aV P w K mg base S6 1 a.abC a.aa7 ["number","within"] tL:=by
 refine T.Zb.F.S9 sW λc A b s H d Q E e h=>?_;obtain⟨j,x,rfl,h⟩:=h;refine(_,(aj (aX (gB (oA (pv 1))) (aq (aD dY)) aL)
  (aq (aD (aB bc (aB cL (bG (v:=.int 32) rfl T.Uj (_,rfl)) (pv 0)) (pv 1))))),?_)
 rcases h with ⟨rfl,q⟩|⟨k,rfl,q⟩
 ·exact(_,rfl,_,rfl,jr q)
 ·refine(_,rfl,_,rfl,dN (_,rfl,_,_,rfl,rfl,.inl (by decide,by decide),_,rfl,_,_,rfl,rfl,?_));rw[show ((32*j+k:Nat):Int)=32*(j:Int)+(k:Int)from by lia]at q;exact q
inductive sZ(vs:List V)(H:Hp)(Q:VK)(_e1:XK):Prop
 | mk (t:Addr) (L:LK) (ah:Addr) (ns ss:List Int) (rest:List V) (j at0:Nat) (g:Int) (_:vs=[.ref t,.ref L.f,.int (j:Int),.int (at0:Int),.int g]) (_:Ask H t L ah ns ss rest) (_:ss.length<1000000) (_:32*j<ns.length) (_:∀x ss' H',((x=.non/\cG ns (max at0 (32*j)) (32*j+wide ns.length j) g) \/ ∃k:Nat,x=.int (k:Int)/\dR ns (max at0 (32*j)) (32*j+wide ns.length j) g k)->bR L.all.length 1 ss ss'->aO (L.put H ss') H'->Q x H')
theorem kW(T:Tx K mg a):aV P w K mg base S6 5 a.abB a.aa6 ["tables","look","number","at","goal"] sZ:=by
 refine T.Za.F.S9 gP λM A x s H N Q E e h=>?_;obtain⟨t,L,I,d,y,rest,j,c,g,rfl,b,u,C,q⟩:=h;refine(_,(aj (aA 5 gP.nd (aF T.abO (tG T) e (aa (pv 2) (aa (pv 3) ak))))
  (aj (aA 6 gP.nd (aF T.X4 (jx T) e (aa (pv 2) (aa (aW aU (pv 0) ao) ak))))
  (aq (aD (aF T.Zb (kY T) e (aa (pv 2) (aa (aF T.abM (tX T) e (aa (dH ((cM T).mono (by decide)) e (i:=1) rfl (aa (pv 2) ak)) (aa (pv 5) (aa (pv 6) (aa (aB bz (pv 4) (aF T.X3 (nY T) e (aa (pv 0) (aa (pv 2) ak)))) ak))))) ak))))))),?_)
 obtain⟨o,G,B,D⟩:=b.asks.look.fn;have n:j<many d.length:=by
  unfold many;lia
 have m:wide d.length j<=32:=by
  unfold wide;lia
 exists _,rfl,_,rfl,j,c,rfl;exists _,rfl,_,rfl,t,_,_,_,rfl,rfl,S7.of b.tab.tup,mU _ _ _ b.tab.few,j,d.length,rfl,adi C;exists _,rfl,L.f,o,G,rfl,B,D,_,rfl,B,L,y,j,_,rfl,rfl,b.asks,u,b.blk _ (by first|exact n|lia);have J:=b.more (tt:=y++[((L.off+j:Nat):Int)]) (by rw[aaf,afC];lia);exists _,rfl,_,rfl,_,rfl,_,rfl,_,rfl,t,I,d,rest,j,rfl,J.tab,adi n,_,_,rfl,rfl;have z:32*j+(c - 32*j)=max c (32*j):=by lia
 have w:=b.wr n;refine(cB d j,c - 32*j,wide d.length j,g - ht d (32*j),rfl,m,λp k l hd v=>?_,λp l r=>?_)
 ·have:=first_within b.bits m hd v;rw[z]at this;exact(j,_,rfl,.inr (k,rfl,q _ _ p (.inr (_,rfl,this)) w l))
 ·have:=rZ b.bits m r;rw[z]at this;exact(j,_,rfl,.inl (rfl,q _ _ p (.inl (rfl,this)) w l))
inductive wN(Ph:Addr)(vs:List V)(H:Hp)(Q:VK)(_e1:XK):Prop
 | mk (p:BP) (ss:List Int) (at0:Nat) (g:Int) (_:vs=[.ref p.t,.ref p.L.f,.int (at0:Int),.int g]) (_:T5 H Ph p ss) (_:ss.length<=999990) (_:at0<=p.ns.length) (_:∀x ss' H',((x=.non/\cG p.ns at0 p.ns.length g) \/ ∃k:Nat,x=.int (k:Int)/\dR p.ns at0 p.ns.length g k)->Did H H' Ph p.L 2 ss ss'->Q x H')
theorem wC(T:Tx K mg a)(B:Bs mg base a):aV P w K mg base S6 6 a.acP a.ab7 ["tables","look","at","goal"] (wN a.Tr):=by
 refine T.ac7.F.S9 fX λa3 A R s H vs Q E o h=>?_;obtain⟨p,W,b,g,rfl,d,a1,h1,q⟩:=h;refine(_,(aj (bu (aF T.Wr (di T) o (aa (pv 2) (aa (aW aU (pv 0) ao) ak))))
  (aj (aX (aG cT (pv 2) (aW aU (pv 0) ao)) (aq (aD dY)) aL)
  (aj (aA 4 fX.nd (aB bL (pv 2) (bG (v:=.int 32) rfl T.Uj (_,rfl))))
  (aj (aA 5 fX.nd (aF T.Za (kW T) o (aa (pv 0) (aa (pv 1) (aa (pv 4) (aa (pv 2) (aa (pv 3) ak)))))))
  (aj (aX (gB (ue (pv 5))) (aq (aD (pv 5))) aL)
  (aj (aA 6 fX.nd (aF T.abe (qN T) o (aa (aF T.Y7 (lK T) o (aa (pv 0) ak)) (aa (aF T.Y8 (pD T B) o (aa (pv 0) ak)) (aa (aB bc (pv 4) ao) (aa (pv 3) ak))))))
  (aj (aX (gB (oA (pv 6))) (aq (aD dY)) aL)
  (aq (aD (aF T.Za (kW T) o (aa (pv 0) (aa (pv 1) (aa (pv 6) (aa (pv 2) (aa (pv 3) ak))))))))))))))),?_)
 have a0:=d.ask.len;refine(_,rfl,_,rfl,p.t,_,_,_,rfl,rfl,S7.of d.ask.tab.tup,rfl,_,_,rfl,by lia,by lia,?_);refine(_,rfl,_,rfl,p.t,_,_,_,rfl,rfl,S7.of d.ask.tab.tup,rfl,rfl,_,rfl,bC (λc=>?_) λc=>?_)
 ·have c:V.int (b:Int)=V.int (p.ns.length:Int):=of_decide_eq_true c;injection c with c
  exact q _ W H (.inl (rfl,cG.empty (by lia))) (d.self.le (by decide))
 have c:(b:Int)≠(p.ns.length:Int):=λz=>c (decide_eq_true (congrArg V.int z));have Z:(b:Int) / 32=((b / 32:Nat):Int):=by lia
 exists _,rfl,_,_,rfl,rfl,(by decide,by decide);refine(_,rfl,_,rfl,_,rfl,_,rfl,_,rfl,p.t,p.L,p.ah,p.ns,W,_,b / 32,b,g,?_,d.ask,by lia,by lia,λx N H1 m W9 s1=>?_)
 ·rw[<-Z];rfl
 have J:=d.look W9 s1;have l1:=W9.len;have r:=d.did J (by lia);rw[show max b (32*(b / 32))=b from by lia]at m;rcases m with ⟨rfl,l⟩|⟨k,rfl,D⟩
 rotate_left
 ·refine(_,rfl,_,rfl,jr (_,rfl,q _ N H1 (.inr (k,rfl,D.wider (by unfold wide;lia))) (J.le (by decide))))
 refine(_,rfl,_,rfl,dN ?_);obtain⟨I,e2⟩:=d.lenL;exists _,rfl,p.t,p.ah,p.ns,_,rfl,r.ask.tab;refine(_,rfl,p.t,p.nd,_,_,p.xs,rfl,r.ask.tab.tup,r.Vu,r.tab,λG H5 nf b5 O qu=>?_);have d5:=J.trans (r.made b5 O);have V9:=d.did d5 (by lia);have ev:[V.int ((many p.ns.length:Nat):Int),.ref G,.int ((b:Int) / 32+1),.int g]=[.int (p.lows.length:Int),.ref G,.int ((b / 32+1:Nat):Int),.int g]:=by
  rw[I,Z];rfl
 have a2:b / 32+1<=many p.ns.length:=by
  unfold many;lia
 refine(_,rfl,_,_,rfl,rfl,_,rfl,G,p.nd,p.xs,p.lows,p.S,b / 32+1,g,ev,qu,d.sz,d.heap,by lia,by lia,λx H6 X m=>?_);have d6:=d5.same X;have Xa:=V9.same X;have f:cG p.ns b (32*(b / 32+1)) g\/32*(b / 32+1) > p.ns.length:=by
  rcases aas p.ns.length (32*(b / 32+1))with z|z
  ·exact .inr z
  ·rw[show 32*(b / 32)+wide p.ns.length (b / 32)=32*(b / 32+1)from by unfold wide;lia]at l;exact .inl l
 rcases m with ⟨rfl,y⟩|⟨i,rfl,h3,Y,⟨c5,h5,Zy⟩,h6⟩
 ·refine(_,rfl,_,rfl,jr (q _ N H6 (.inl (rfl,?_)) (d6.le (by decide))));rcases f with f|z
  ·refine f.join (d.low.none (i:=b / 32+1) (j:=many p.ns.length) (λt M C U e=>y t M C e) ?_ (aac _));unfold many;lia
  ·rw[show 32*(b / 32)+wide p.ns.length (b / 32)=p.ns.length from by unfold wide;lia]at l;exact l
 rw[I]at Y;have hi:32*i<p.ns.length:=by
  unfold many at Y;lia
 have n:cG p.ns b (32*(b / 32+1)) g:=by
  rcases f with z|z
  ·exact z
  ·lia
 refine(_,rfl,_,rfl,dN ?_);refine(_,rfl,_,rfl,_,rfl,_,rfl,_,rfl,p.t,p.L,p.ah,p.ns,N,_,i,b,g,rfl,Xa.ask,by lia,hi,λx Zz H7 m ZC s7=>?_);have d7:=d6.trans (Xa.look ZC s7);rw[show max b (32*i)=32*i from by lia,show 32*i+wide p.ns.length i=min (32*i+32) p.ns.length from by unfold wide;lia]at m;have u:cG p.ns b (32*i) g:=n.join (d.low.none (i:=b / 32+1) (j:=i) (λt M C U e=>h6 t M C (by rw[I];lia) (by rw[if_pos rfl];exact U) e) (aac _) (by lia));rcases m with ⟨rfl,hn⟩|⟨k,rfl,D⟩
 ·exact absurd hn (d.low.some h5 Zy)
 ·refine q _ Zz H7 (.inr (k,rfl,?_)) d7;exact((dR.after u D (by lia)).wider (by lia))
inductive v6(vs:List V)(H:Hp)(Q:VK)(_e1:XK):Prop
 | mk (t:Addr) (L:LK) (ah:Addr) (ns ss:List Int) (rest:List V) (j up:Nat) (g:Int) (_:vs=[.ref t,.ref L.f,.int (j:Int),.int (up:Int),.int g]) (_:Ask H t L ah ns ss rest) (_:ss.length<1000000) (_:32*j<up) (_:up<=ns.length) (_:∀x ss' H',((x=.non/\cG ns (32*j) (32*j+wide up j) g) \/ ∃k:Nat,x=.int (k:Int)/\jD ns (32*j) (32*j+wide up j) g k)->bR L.all.length 1 ss ss'->aO (L.put H ss') H'->Q x H')
theorem mF(T:Tx K mg a):aV P w K mg base S6 5 a.ab8 a.abD ["tables","look","number","upto","goal"] v6:=by
 refine T.Zc.F.S9 mH λM A x s H N Q E c h=>?_;obtain⟨t,L,G,d,y,rest,j,e,g,rfl,b,u,B,J,q⟩:=h;refine(_,(aj (aA 5 mH.nd (aF T.X4 (jx T) c (aa (pv 2) (aa (pv 3) ak))))
  (aq (aD (aF T.Zb (kY T) c (aa (pv 2) (aa (aF T.acq (vY T) c (aa (dH ((cM T).mono (by decide)) c (i:=1) rfl (aa (pv 2) ak)) (aa ao (aa (pv 5) (aa (aB bz (pv 4) (aF T.X3 (nY T) c (aa (pv 0) (aa (pv 2) ak)))) ak))))) ak)))))),?_)
 obtain⟨o,D,z,C⟩:=b.asks.look.fn;have n:j<many d.length:=by
  unfold many;lia
 have m:wide e j<=32:=by
  unfold wide;lia
 exists _,rfl,_,rfl,j,e,rfl,adi B;exists _,rfl,L.f,o,D,rfl,z,C,_,rfl,z,L,y,j,_,rfl,rfl,b.asks,u,b.blk _ (by first|exact n|lia);have I:=b.more (tt:=y++[((L.off+j:Nat):Int)]) (by rw[aaf,afC];lia);exists _,rfl,_,rfl,_,rfl,_,rfl,t,G,d,rest,j,rfl,I.tab,adi n,_,_,rfl,rfl;have w:=b.wr n;refine(cB d j,0,wide e j,g - ht d (32*j),rfl,m,λp k l hd v=>?_,λp l r=>?_)
 ·exact(j,_,rfl,.inr (k,rfl,q _ _ p (.inr (_,rfl,last_within b.bits m hd v)) w l))
 ·exact(j,_,rfl,.inl (rfl,q _ _ p (.inl (rfl,rZ b.bits m r)) w l))
inductive rz(Ph:Addr)(vs:List V)(H:Hp)(Q:VK)(_e1:XK):Prop
 | mk (p:BP) (ss:List Int) (at0:Nat) (g:Int) (_:vs=[.ref p.t,.ref p.L.f,.int ((at0:Int) - 1),.int g]) (_:T5 H Ph p ss) (_:ss.length<=999990) (_:at0<=p.ns.length+1) (_:∀x ss' H',((x=.non/\cG p.ns 0 (at0 - 1) g) \/ ∃k:Nat,x=.int (k:Int)/\jD p.ns 0 (at0 - 1) g k)->Did H H' Ph p.L 2 ss ss'->Q x H')
theorem qC(T:Tx K mg a)(B:Bs mg base a):aV P w K mg base S6 6 a.aa8 a.aaR ["tables","look","upto","goal"] (rz a.Tr):=by
 refine T.abh.F.S9 dz λa3 A O s H vs Q E n h=>?_;obtain⟨p,R,l,g,rfl,f,a1,h1,q⟩:=h;refine(_,(aj (aX (aG jH (pv 2) ao) (aq (aD dY)) aL)
  (aj (aA 4 dz.nd (aB bL (aB bz (pv 2) ao) (bG (v:=.int 32) rfl T.Uj (_,rfl))))
  (aj (aA 5 dz.nd (aF T.Zc (mF T) n (aa (pv 0) (aa (pv 1) (aa (pv 4) (aa (pv 2) (aa (pv 3) ak)))))))
  (aj (aX (gB (ue (pv 5))) (aq (aD (pv 5))) aL)
  (aj (aA 6 dz.nd (aF T.abN (sV T) n (aa (aF T.Y7 (lK T) n (aa (pv 0) ak)) (aa (aF T.Y8 (pD T B) n (aa (pv 0) ak)) (aa (pv 4) (aa (pv 3) ak))))))
  (aj (aX (gB (oA (pv 6))) (aq (aD dY)) aL)
  (aq (aD (aF T.Zc (mF T) n (aa (pv 0) (aa (pv 1) (aa (pv 6) (aa (pv 2) (aa (pv 3) ak)))))))))))))),?_)
 have a0:=f.ask.len;refine(_,rfl,_,_,rfl,rfl,_,rfl,bC (λc=>?_) λc=>?_)
 ·have c:(l:Int) - 1<1:=of_decide_eq_true c;exact q _ R H (.inl (rfl,cG.empty (by lia))) (f.self.le (by decide))
 have c:¬(l:Int) - 1<1:=λz=>c (decide_eq_true z);obtain⟨d,rfl⟩:∃d,l=d+1:=(l - 1,by lia);rw[ag3]at q;have W:((d+1:Nat):Int) - 1=(d:Int):=by lia
 have X:(((d+1:Nat):Int) - 1 - 1) / 32=(((d - 1) / 32:Nat):Int):=by lia
 exists _,rfl,_,_,rfl,rfl,_,_,rfl,rfl,(by decide,by decide);refine(_,rfl,_,rfl,_,rfl,_,rfl,_,rfl,p.t,p.L,p.ah,p.ns,R,_,(d - 1) / 32,d,g,?_,f.ask,by lia,by lia,by lia,λx M H1 m W9 s1=>?_)
 ·rw[<-X,<-W];rfl
 have I:=f.look W9 s1;have l1:=W9.len;have o:=f.did I (by lia);rw[show 32*((d - 1) / 32)+wide d ((d - 1) / 32)=d from by unfold wide;lia]at m;rcases m with ⟨rfl,r⟩|⟨k,rfl,D⟩
 rotate_left
 ·refine(_,rfl,_,rfl,jr (_,rfl,q _ M H1 (.inr (k,rfl,D.wider (by lia))) (I.le (by decide))))
 refine(_,rfl,_,rfl,dN ?_);obtain⟨e1,e2⟩:=f.lenL;exists _,rfl,p.t,p.ah,p.ns,_,rfl,o.ask.tab;refine(_,rfl,p.t,p.nd,_,_,p.xs,rfl,o.ask.tab.tup,o.Vu,o.tab,λG H5 nf b5 N qu=>?_);have Z:=I.trans (o.made b5 N);have V9:=f.did Z (by lia);have ev:[V.int ((many p.ns.length:Nat):Int),.ref G,.int ((((d+1:Nat):Int) - 1 - 1) / 32),.int g]=[.int (p.lows.length:Int),.ref G,.int (((d - 1) / 32:Nat):Int),.int g]:=by
  rw[e1,X]
 have a2:(d - 1) / 32<=many p.ns.length:=by
  unfold many;lia
 refine(_,rfl,_,rfl,G,p.nd,p.xs,p.lows,p.S,(d - 1) / 32,g,ev,qu,f.sz,f.heap,by lia,by lia,λx H6 U m=>?_);have Y:=Z.same U;have Xa:=V9.same U;rcases m with ⟨rfl,y⟩|⟨i,rfl,h3,h4,⟨c5,h5,Zy⟩,h6⟩
 ·refine(_,rfl,_,rfl,jr (q _ M H6 (.inl (rfl,?_)) (Y.le (by decide))));have:=f.low.none (i:=0) (j:=(d - 1) / 32) (b:=32*((d - 1) / 32)) (λt J t1 C e=>y t J C e) (aac _) (by lia);exact this.join r
 refine(_,rfl,_,rfl,dN ?_);refine(_,rfl,_,rfl,_,rfl,_,rfl,_,rfl,p.t,p.L,p.ah,p.ns,M,_,i,d,g,?_,Xa.ask,by lia,by lia,by lia,λx Zz H7 m ZC s7=>?_)
 ·rw[<-W];rfl
 have d7:=Y.trans (Xa.look ZC s7);rw[show 32*i+wide d i=32*(i+1)from by unfold wide;lia]at m;have u:cG p.ns (32*(i+1)) d g:=(f.low.none (i:=i+1) (j:=(d - 1) / 32) (b:=32*((d - 1) / 32)) (λt J t1 C e=>h6 t J (aaK _) C (by rw[if_neg (by decide)];lia) e) (aac _) (by lia)).join r;rcases m with ⟨rfl,hn⟩|⟨k,rfl,D⟩
 ·refine absurd ?_ (f.low.some h5 Zy);rw[show min (32*i+32) p.ns.length=32*(i+1)from by lia];exact hn
 ·exact q _ Zz H7 (.inr (k,rfl,(jD.ahead u D (by lia)).wider (by lia))) d7
inductive zK(Ph:Addr)(vs:List V)(H:Hp)(Q:VK)(_e1:XK):Prop
 | mk (p:BP) (ss:List Int) (at0:Nat) (g:Int) (_:vs=[.ref p.t,.ref p.L.f,.int (at0:Int),.int g]) (_:T5 H Ph p ss) (_:ss.length<=999990) (_:at0<=p.ns.length) (_:∀x ss' H',((x=.non/\QJ p.ns at0 g) \/ ∃k:Nat,x=.int (k:Int)/\FN p.ns at0 g k)->Did H H' Ph p.L 2 ss ss'->Q x H')
theorem yO(T:Tx K mg a)(B:Bs mg base a):aV P w K mg base S6 7 a.adw a.acQ ["tables","look","at","goal"] (zK a.Tr):=by
 refine T.adO.F.S9 oG λL A o s H M Q E r h=>?_;obtain⟨p,v,b,g,rfl,u,n,N,q⟩:=h;refine(_,(aj (bu (aF T.Wr (di T) r (aa (pv 2) (aa (aW aU (pv 0) ao) ak))))
  (aj (aA 4 oG.nd (aF T.abh (qC T B) r (aa (pv 0) (aa (pv 1) (aa (aB bz (pv 2) ao) (aa (pv 3) ak))))))
  (aj (aX (PW.pt (gw (gB (oA (pv 4))) (gw (aG jf (pv 2) ao) (fZ (aG z8 (pv 3) ao))))) (aq (aD ao)) aL)
  (aq (aD (pv 4)))))),?_)
 refine(_,rfl,_,rfl,p.t,_,_,_,rfl,rfl,S7.of u.ask.tab.tup,rfl,_,_,rfl,by lia,by lia,?_);refine(_,rfl,_,rfl,_,rfl,_,_,rfl,rfl,_,rfl,p,v,b,g,rfl,u,n,by lia,λx j l C f=>?_);rcases C with ⟨rfl,e⟩|⟨k,rfl,R,O,J,I⟩
 rotate_left
 ·refine(_,rfl,_,rfl,dN (dN (_,rfl,q _ j l (.inr (k,rfl,by lia,J,λi m y=>I i m (by lia))) f)))
 refine(_,rfl,_,rfl,jr ?_);refine(_,rfl,_,_,rfl,rfl,_,rfl,bC (λd=>?_) λd=>dN (_,rfl,q _ j l (.inl (rfl,λi D=>?_)) f))
 rotate_left
 ·have d:¬(0:Int)<(b:Int):=λz=>d (decide_eq_true z);lia
 have d:(0:Int)<(b:Int):=of_decide_eq_true d;refine(_,rfl,_,_,rfl,rfl,_,rfl,bC (λc=>?_) λc=>(_,rfl,q _ j l (.inl (rfl,λi D=>?_)) f))
 ·have c:(0:Int)<=g:=of_decide_eq_true c;have:=q _ j l (.inr (0,rfl,by lia,by rw[jk];exact c,λi m y=>e i m (by lia))) f;exact this
 ·have c:¬(0:Int)<=g:=λz=>c (decide_eq_true z);rcases acz i with rfl|G
  ·rw[jk];lia
  ·exact e i G (by lia)
inductive ql(vs:List V)(H:Hp)(Q:VK)(E:XK):Prop
 | mk (t:Addr) (L:LK) (ah:Addr) (ns ss:List Int) (rest:List V) (at0:Nat) (b:Int) (_:vs=[.ref t,.ref L.f,.int (at0:Int),.int b]) (_:Ask H t L ah ns ss rest) (_:ss.length<1000000) (_:ns[at0]?=some b) (_:∀ss' H',bR L.all.length 1 ss ss'->aO (L.put H ss') H'->Q .non H')
theorem jM(T:Tx K mg a):aV P w K mg base S6 5 a.aa9 a.aaS ["tables","look","at","bit"] ql:=by
 refine T.Zd.F.S9 rE λp A f s H r Q E k h=>?_;obtain⟨t,L,n,j,g,rest,e,b,rfl,m,d,l,q⟩:=h;exists _,(aq (aX (aG yf (aF T.Ws (jL T) k (aa (pv 0) (aa (pv 1) (aa (pv 2) ak)))) (pv 3)) (aq bW) aL));exact(_,rfl,_,rfl,_,rfl,t,L,n,j,g,rest,e,b,rfl,m,d,l,λc o w i=>(_,rfl,rfl,_,rfl,xV rfl (q c o w i)))
inductive Eu(Ph:Addr)(vs:List V)(H:Hp)(Q:VK)(_e1:XK):Prop
 | mk (p:BP) (ss:List Int) (at0:Nat) (_:vs=[.ref p.t,.ref p.L.f,.int (at0:Int)]) (_:T5 H Ph p ss) (_:ss.length<=999980) (_:Tree p.ns) (_:p.ns[at0]?=some 1) (_:∀(k:Nat) ss' H',dR p.ns at0 p.ns.length (ht p.ns at0) (k+1)->Did H H' Ph p.L 4 ss ss'->Q (.int (k:Int)) H')
theorem Fj(T:Tx K mg a)(B:Bs mg base a):aV P w K mg base S6 7 a.aeN a.aeb ["tables","look","at"] (Eu a.Tr):=by
 refine T.aeW.F.S9 FW λS A i s H U Q E e h=>?_;obtain⟨p,y,b,rfl,d,R,c,o,q⟩:=h;have f:=(aab.mp o).1;refine(_,(aj (bu (aF T.Zd (jM T) e (aa (pv 0) (aa (pv 1) (aa (pv 2) (aa ao ak))))))
  (aq (aD (aB bz (aF T.ac7 (wC T B) e (aa (pv 0) (aa (pv 1) (aa (pv 2) (aa (aF T.Y9 (xq T) e (aa (pv 0) (aa (pv 1) (aa (pv 2) ak)))) ak))))) ao)))),?_)
 refine(_,rfl,_,rfl,_,rfl,p.t,p.L,p.ah,p.ns,y,_,b,1,rfl,d.ask,by lia,o,λM Y m C=>?_);have u:=d.look m C;have W:=m.len;have v:=d.did u (by lia);refine(_,rfl,_,rfl,_,rfl,_,rfl,_,rfl,_,rfl,p.t,p.L,p.ah,p.ns,M,_,b,rfl,v.ask,by lia,by lia,λN X l z=>?_);have r:=u.trans (v.look l z);have V:=l.len;have g:=d.did r (by lia);refine(p,N,b,ht p.ns b,rfl,g,by lia,by lia,λx J O D I=>?_);rcases D with ⟨rfl,G⟩|⟨k,rfl,n⟩
 ·have:=G p.ns.length f (aac _);rw[c.2.1]at this;have:=c.pos (k:=b) (by lia);lia
 ·obtain⟨k,rfl⟩:∃j,k=j+1:=(k - 1,by have:=n.1;lia);exists _,_,rfl,rfl;have:=q k J O n (r.trans I);rw[show (k:Int)=((k+1:Nat):Int) - 1 from by lia]at this;exact this
inductive Ec(Ph:Addr)(vs:List V)(H:Hp)(Q:VK)(_e1:XK):Prop
 | mk (p:BP) (ss:List Int) (at0:Nat) (_:vs=[.ref p.t,.ref p.L.f,.int (at0:Int)]) (_:T5 H Ph p ss) (_:ss.length<=999980) (_:Tree p.ns) (_:p.ns[at0]?=some 0) (_:∀(k:Nat) ss' H',FN p.ns at0 (ht p.ns at0 - 1) k->Did H H' Ph p.L 4 ss ss'->Q (.int (k:Int)) H')
theorem Do(T:Tx K mg a)(B:Bs mg base a):aV P w K mg base S6 8 a.aeO a.aec ["tables","look","at"] (Ec a.Tr):=by
 refine T.aeX.F.S9 Fi λV A j s H W Q E e h=>?_;obtain⟨p,u,b,rfl,d,S,g,f,q⟩:=h;have U:=(aab.mp f).1;refine(_,(aj (bu (aF T.Zd (jM T) e (aa (pv 0) (aa (pv 1) (aa (pv 2) (aa ao ak))))))
  (aq (aD (aF T.adO (yO T B) e (aa (pv 0) (aa (pv 1) (aa (pv 2) (aa (aB bz (aF T.Y9 (xq T) e (aa (pv 0) (aa (pv 1) (aa (pv 2) ak)))) ao) ak)))))))),?_)
 refine(_,rfl,_,rfl,_,rfl,p.t,p.L,p.ah,p.ns,u,_,b,0,rfl,d.ask,by lia,f,λN H1 m y=>?_);have o:=d.look m y;have Y:=m.len;have r:=d.did o (by lia);refine(_,rfl,_,rfl,_,rfl,_,rfl,_,rfl,_,rfl,p.t,p.L,p.ah,p.ns,N,_,b,rfl,r.ask,by lia,by lia,λO H2 l v=>?_);have n:=o.trans (r.look l v);have X:=l.len;have i:=d.did n (by lia);refine(_,_,rfl,rfl,p,O,b,ht p.ns b - 1,rfl,i,by lia,by lia,λx M R C J=>?_);have c:0<b/\0<=ht p.ns b - 1:=by
  have I:=jU f;have Z:=g.pos (k:=b+1) (by lia);refine(?_,by lia);rcases acz b with rfl|z
  ·rw[jk]at I;lia
  ·exact z
 rcases C with ⟨rfl,D⟩|⟨k,rfl,G⟩
 ·have:=D 0 c.1;rw[jk]at this;lia
 ·exact q k M R G (n.trans J)
inductive yE(vs:List V)(H:Hp)(Q:VK)(E:XK):Prop
 | mk (p:Addr) (ds:List Int) (_:vs=[.ref p]) (_:H p=some (.lst (ds.map V.int))) (_:ds.length<=2048) (_:gj ds) (_:∀r t ah nd bl lows S xs H',H bl=none->aO H H'->H' r=some (.tup [.ref t,.ref bl])->KB H' t ah nd bl (brk ds 0) lows S xs->Q (.ref r) H')
theorem zr(T:Tx K mg a):aV P w K mg base S6 7 a.adx a.acR ["depths"] yE:=by
 refine T.adP.F.S9 zc λC A e s H D Q E g h=>?_;obtain⟨p,i,rfl,u,v,d,q⟩:=h;exists _,(aq (aD (aF T.abg (qI T) g (aa (aF T.acs (v4 T) g (aa (pv 0) ak)) ak))));refine(_,rfl,p,i,rfl,u,d,v,λb M G f l=>?_);have L:=m6 d;exact(b,brk i 0,rfl,My.of l,by lia,nR _ _,uJ d,λr t z n y c S j B x J I m k o=>q r t z n y c S j B (f.free x) (f.trans m) k o)
inductive wU(vs:List V)(H:Hp)(Q:VK)(_e1:XK):Prop
 | mk (t ah:Addr) (ns:List Int) (rest:List V) (_:vs=[.ref t]) (_:Tab H t ah ns rest) (_:Q (.int ((ns.length:Int) / 2)) H)
theorem wV(T:Tx K mg a):aV P w K mg base S6 1 a.acV a.ach ["tables"] wU:=by
 refine T.ada.F.S9 wW λd A b s H e Q E g h=>?_;obtain⟨t,i,f,rest,rfl,c,q⟩:=h;exists _,(aq (aD (aB bL (aW aU (pv 0) ao) ao)));exact(_,rfl,t,_,_,_,rfl,rfl,S7.of c.tup,mU _ _ _ c.few,_,_,rfl,rfl,(by decide,by decide),q)
inductive xg(C:Addr)(vs:List V)(H:Hp)(Q:VK)(E:XK):Prop
 | mk (t ah:Addr) (ns:List Int) (rest:List V) (node:Int) (_:vs=[.ref t,.int node]) (_:Tab H t ah ns rest) (_:((0<=node/\node<(ns.length:Int) / 2/\Q .non H)\/((node<0\/(ns.length:Int) / 2<=node)/\E (.ref C) none H)))
theorem wu(T:Tx K mg a):aV P w K mg base (VB P w) 2 a.acW a.aci ["tables","node"] (xg a.TX):=by
 refine T.adb.F.ok1 ww (λi H Q E h=>?_) (λm A f s H i Q E j h=>?_)
 ·obtain⟨t,g,e,rest,b,rfl,_⟩:=h;rfl
 obtain⟨t,g,e,rest,b,rfl,k,h⟩:=h;exists _,(aq (aX (PW.pt (nu (aG jH (pv 1) ao) (kI (aG z8 (pv 1) (aF T.ada (wV T) j (aa (pv 0) ak)))))) (aq (KR T.afy rfl (aa nC ak))) aL));refine(_,rfl,_,_,rfl,rfl,_,rfl,bC (λc=>?_) λc=>?_)
 ·have c:=of_decide_eq_true c;rcases h with ⟨l,_⟩|⟨_,q⟩
  ·lia
  ·exact jr ((by show 1<=sizeLine;decide),q)
 have c:¬b<0:=λz=>c (decide_eq_true z);refine(_,rfl,_,rfl,t,g,e,rest,rfl,k,_,_,rfl,rfl,_,rfl,bC (λd=>?_) λd=>?_)
 ·have d:=of_decide_eq_true d;rcases h with ⟨l,n,_⟩|⟨_,q⟩
  ·lia
  ·exact((by show 1<=sizeLine;decide),q)
 have d:¬(e.length:Int) / 2<=b:=λz=>d (decide_eq_true z);rcases h with ⟨_,_,q⟩|⟨z,_⟩
 ·exact q
 ·lia
structure Nd(H:Hp)(Ph:Addr)(p:BP)(ss ds:List Int):Prop where
 b:T5 H Ph p ss
 few:ss.length<=999900
 eq:p.ns=brk ds 0
 good:gj ds
theorem Nd.sum{p:BP}{ds:List Int}(h:Nd H f p d ds):p.ns.sum=ds.length:=by
 rw[h.eq];exact CG h.good
theorem Nd.len{p:BP}{ds:List Int}(h:Nd H f p d ds):p.ns.length=2*ds.length:=by
 rw[h.eq];exact m6 h.good
theorem Nd.tree{p:BP}{ds:List Int}(h:Nd H f p d ds):Tree p.ns:=by
 rw[h.eq];exact uJ h.good
theorem Nd.bits{H:Hp}{d:Addr}{p:BP}{c ds:List Int}(h:Nd H d p c ds):aZ p.ns:=h.b.ask.bits
theorem Nd.deep{p:BP}{ds:List Int}(h:Nd H f p d ds){i x:Nat}(c:p.ns[x]?=some 1)(b:(p.ns.take x).sum=(i:Int)):ds[i]?=some (ht p.ns x):=by
 rw[h.eq]at c b ⊢;exact LC h.good c b
theorem Nd.at{p:BP}{ds:List Int}(h:Nd H f p d ds){j:Nat}(b:j<ds.length):∃x,p.ns[x]?=some 1/\(p.ns.take x).sum=(j:Int):=QR h.bits (by rw[h.sum];lia)
theorem Nd.nat{p:BP}{ds:List Int}(h:Nd H f p d ds)(k:Nat):∃i:Nat,(p.ns.take k).sum=(i:Int):=by
 have:=iU h.bits 0 k (aaK _);rw[ah4]at this;have e:([]:List Int).sum=0:=rfl;exact((p.ns.take k).sum.toNat,by lia)
theorem Nd.btw{p:BP}{ds:List Int}(h:Nd H f p d ds){k x i j:Nat}{g:Int}(u:k<=x)(v:(p.ns.take k).sum=(i:Int))(t:(p.ns.take x).sum=(j:Int))(b:∀q,k<=q->q<x->p.ns[q]?=some 1->g<ht p.ns q):∀m y,i<=m->m<j->ds[m]?=some y->g<y:=λm y s r l=>by
 have o:=(aab.mp l).1;obtain⟨q,c,n⟩:=h.at o;have e:=h.deep c n;rw[l]at e;rw[aap e];refine b q ?_ ?_ c
 ·rcases aas q k with z|z
  ·have:=iU h.bits (q+1) k z;rw[je c]at this;lia
  ·exact z
 ·rcases aas q x with z|z
  ·exact z
  ·have:=iU h.bits x q z;lia
theorem Nd.beneath{p:BP}{ds:List Int}(h:Nd H f p d ds){x c j:Nat}(s:p.ns[x]?=some 1)(G:(p.ns.take x).sum=(j:Int))(b:Pair p.ns x c):((c:Int) - x) / 2=((run ds (j+1) (ht p.ns x):Nat):Int)/\(p.ns.take (c+1)).sum=((j+1+run ds (j+1) (ht p.ns x):Nat):Int):=by
 have E:=je s;have D:=je b.nought;have e:ht p.ns (c+1)=ht p.ns x:=b.eq;have F:=b.lt;have I:=b.XD;obtain⟨n,u⟩:=h.nat (c+1);have v:=iU h.bits (x+1) (c+1) (by lia);have C:2*((n:Int)) - ((c+1:Nat):Int)=2*(j:Int) - (x:Int):=by
  have:ht p.ns (c+1)=2*(p.ns.take (c+1)).sum - ((c+1:Nat):Int):=rfl;have:ht p.ns x=2*(p.ns.take x).sum - ((x:Nat):Int):=rfl;lia
 have r:run ds (j+1) (ht p.ns x)=n - (j+1):=by
  refine Cy _ _ (λm v=>?_) (λy g=>?_)
  ·have A:j+1+m<ds.length:=by
    have:=iU h.bits (c+1) p.ns.length (by lia);rw[ago,h.sum]at this;lia
   have g:=aad A;exact(_,g,h.btw (k:=x+1) (x:=c+1) (i:=j+1) (j:=n) (by lia) (by lia) u (λq l t _=>b.above q (by lia) (by lia)) (j+1+m) _ (by lia) (by lia) g)
  ·obtain⟨q,l,t⟩:=h.at (aab.mp g).1;have o:=h.deep l t;rw[g]at o;have o:=aap o;have B:c+1<=q:=by
    rcases aas q (c+1)with z|z
    ·have:=iU h.bits (q+1) (c+1) z;rw[je l]at this;lia
    ·exact z
   have:ht p.ns q=2*(p.ns.take q).sum - ((q:Nat):Int):=rfl;have:ht p.ns x=2*(p.ns.take x).sum - ((x:Nat):Int):=rfl;lia
 rw[r];lia
inductive BL(Ph:Addr)(C:Addr)(vs:List V)(H:Hp)(Q:VK)(E:XK):Prop
 | mk (p:BP) (ss ds:List Int) (node:Int) (_:vs=[.ref p.t,.ref p.L.f,.int node]) (_:Nd H Ph p ss ds) (_:((∃j:Nat,node=(j:Int)/\j<ds.length /\ ∀(x:Nat) ss' H',p.ns[x]?=some 1->(p.ns.take x).sum=(j:Int)->Did H H' Ph p.L 1 ss ss'->Q (.int (x:Int)) H')\/((node<0\/(ds.length:Int)<=node)/\E (.ref C) none H)))
theorem sH(T:Tx K mg a):aV P w K mg base (VB P w) 5 a.aef a.adz ["tables","look","node"] (BL a.Tr a.TX):=by
 refine T.Ze.F.ok1 BK (λn H Q E h=>?_) (λB A e s H n Q E g h=>?_)
 ·obtain⟨p,f,u,c,rfl,_⟩:=h;rfl
 obtain⟨p,f,u,c,rfl,d,h⟩:=h;refine(_,(aj (bu (xJ T.adb (wu T) (by decide) g LR rfl (aa (pv 0) (aa (pv 2) ak))))
  (aq (aD (aF T.adM (za T) g (aa (pv 0) (aa (pv 1) (aa (pv 2) ak))))))),?_)
 have k:=d.sum;have l:=d.len;have z:=d.few;exists _,rfl,_,rfl,p.t,p.ah,p.ns,_,c,rfl,d.b.ask.tab;rcases h with ⟨j,rfl,C,q⟩|⟨i,q⟩
 ·exact .inl (by lia,by lia,_,rfl,_,rfl,_,rfl,p.t,p.L,p.ah,p.ns,f,[.ref p.nd],(j:Int),rfl,d.b.ask,by lia,by lia,by lia,λy x v i r m o=>q x v y i r (d.b.look m o))
 ·exact .inr (by lia,q)
inductive Es(Ph:Addr)(vs:List V)(H:Hp)(Q:VK)(_e1:XK):Prop
 | mk (p:BP) (ss:List Int) (at0:Nat) (_:vs=[.ref p.t,.ref p.L.f,.int (at0:Int)]) (_:T5 H Ph p ss) (_:ss.length<=999960) (_:Tree p.ns) (_:((p.ns[at0]?=some 1 /\ ∀ss' H',Did H H' Ph p.L 2 ss ss'->Q (.int (p.ns.take at0).sum) H')\/(p.ns[at0]?=some 0 /\ ∀(k:Nat) ss' H',FN p.ns at0 (ht p.ns at0 - 1) k->Did H H' Ph p.L 6 ss ss'->Q (.int (p.ns.take k).sum) H')))
theorem Fe(T:Tx K mg a)(B:Bs mg base a):aV P w K mg base S6 9 a.aeR a.aee ["tables","look","at"] (Es a.Tr):=by
 refine T.aeZ.F.S9 Ff λS A u s H U Q E j h=>?_;obtain⟨p,v,b,rfl,d,W,G,h⟩:=h;refine(_,(aj (aX (aG cT (aF T.Ws (jL T) j (aa (pv 0) (aa (pv 1) (aa (pv 2) ak)))) ao) (aq (aD (aF T.Wt (iY T) j (aa (pv 0) (aa (pv 1) (aa (pv 2) ak)))))) aL)
  (aq (aD (aF T.Wt (iY T) j (aa (pv 0) (aa (pv 1) (aa (aF T.aeX (Do T B) j (aa (pv 0) (aa (pv 1) (aa (pv 2) ak)))) ak))))))),?_)
 rcases h with ⟨c,q⟩|⟨c,q⟩
 ·have r:=(aab.mp c).1;refine(_,rfl,_,rfl,_,rfl,p.t,p.L,p.ah,p.ns,v,[.ref p.nd],b,1,rfl,d.ask,by lia,c,λn R e l=>?_);have f:=d.look e l;have M:=e.len;have g:=d.did f (by lia);refine(rfl,_,rfl,bC (λ_=>?_) λz=>absurd (by decide) z);exact(_,rfl,_,rfl,_,rfl,p.t,p.L,p.ah,p.ns,n,[.ref p.nd],b,rfl,g.ask,by lia,by lia,λo y D J=>q o y (f.trans (g.look D J)))
 ·have r:=(aab.mp c).1;refine(_,rfl,_,rfl,_,rfl,p.t,p.L,p.ah,p.ns,v,[.ref p.nd],b,0,rfl,d.ask,by lia,c,λn R e l=>?_);have f:=d.look e l;have M:=e.len;have g:=d.did f (by lia);refine(rfl,_,rfl,bC (λz=>absurd z (by decide)) λ_=>?_);refine(_,rfl,_,rfl,_,rfl,_,rfl,_,rfl,p,n,b,rfl,g,by lia,G,c,λk o y x m=>?_);have V:=m.wr.len;have i:=g.did m (by lia);have:=x.1;exact(p.t,p.L,p.ah,p.ns,o,[.ref p.nd],k,rfl,i.ask,by lia,by lia,λN O C I=>q k N O x ((f.trans m).trans (i.look C I)))
inductive RG(R:List Int->Nat->V->Prop)(k:Nat)(Ph:Addr)(C:Addr)(vs:List V)(H:Hp)(Q:VK)(E:XK):Prop
 | mk (p:BP) (ss ds:List Int) (node:Int) (_:vs=[.ref p.t,.ref p.L.f,.int node]) (_:Nd H Ph p ss ds) (_:((∃j:Nat,node=(j:Int)/\j<ds.length /\ ∀x ss' H',R ds j x->Did H H' Ph p.L k ss ss'->Q x H')\/((node<0\/(ds.length:Int)<=node)/\E (.ref C) none H)))
inductive Qw(ds:List Int)(j:Nat)(x:V):Prop
 | mk (d:_) (_:ds[j]?=some d) (_:((x=.int ((j:Int)+1)/\ds[j+1]?=some (d+1))\/(x=.non/\ds[j+1]? ≠ some (d+1))))
theorem Bu(T:Tx K mg a):aV P w K mg base (VB P w) 6 a.aeg a.adA ["tables","look","node"] (RG Qw 2 a.Tr a.TX):=by
 refine T.aep.F.ok1 su (λO H Q E h=>?_) (λZ A v s H O Q E B h=>?_)
 ·obtain⟨p,y,D,f,rfl,_⟩:=h;rfl
 obtain⟨p,y,D,f,rfl,c,h⟩:=h;refine(_,(aj (aA 3 su.nd (aB bc (xJ T.Ze (sH T) (by decide) B LR rfl (aa (pv 0) (aa (pv 1) (aa (pv 2) ak)))) ao))
  (aj (aX (aG cT (aF T.Ws (jL T) B (aa (pv 0) (aa (pv 1) (aa (pv 3) ak)))) ao) (aq (aD dY)) aL)
  (aq (aD (aB bc (pv 2) ao))))),?_)
 have Y:=c.few;exists _,rfl,_,rfl,_,rfl,p,y,D,f,rfl,c;rcases h with ⟨j,rfl,V,q⟩|⟨u,e⟩
 rotate_left
 ·exact .inr (u,e)
 refine .inl (j,rfl,V,λx W H1 d o m=>?_);have l1:=m.wr.len;have I:=c.b.did m (by lia);have XM:=(aab.mp d).1;have n:=c.deep d o;have C:=jU d;have X:=Bc c.good n;obtain⟨_,R,_⟩:=c.tree;have g:x+1<p.ns.length:=by
  rcases aas (x+1) p.ns.length with z|z
  ·exact z
  ·have:x+1=p.ns.length:=by lia
   rw[this,R]at C;lia
 have s1:=je d;exists _,_,rfl,rfl,_,rfl,_,rfl,_,rfl;obtain⟨b,k⟩:∃b,p.ns[x+1]?=some b:=(_,aad g);refine(p.t,p.L,p.ah,p.ns,W,[.ref p.nd],x+1,b,rfl,I.ask,by lia,k,λJ M N S=>(rfl,_,rfl,?_));have G:=m.trans (I.look N S);rcases c.bits b (aag k)with rfl|rfl
 ·refine jr (q _ J M (_,n,.inr (rfl,λz=>?_)) G);obtain⟨r,l,U⟩:=c.at (aab.mp z).1;have e:=c.deep l U;rw[z]at e;have e:=aap e;have e1:ht p.ns r=2*(p.ns.take r).sum - ((r:Nat):Int):=rfl;have e2:ht p.ns x=2*(p.ns.take x).sum - ((x:Nat):Int):=rfl;have:r=x+1:=by lia
  subst this;rw[k]at l;cases l
 ·refine dN (_,rfl,_,_,rfl,rfl,q _ J M (_,n,.inl (rfl,?_)) G);have:=c.deep (i:=j+1) k (by lia);rw[C,show ht p.ns x+2*1 - 1=ht p.ns x+1 from by lia]at this;exact this
inductive ZD(ds:List Int)(j:Nat)(x:V):Prop
 | mk (d:_) (_:ds[j]?=some d) (_:((x=.int ((j+1+run ds (j+1) d:Nat):Int)/\ds[j+1+run ds (j+1) d]?=some d)\/(x=.non/\ds[j+1+run ds (j+1) d]? ≠ some d)))
theorem wz(T:Tx K mg a)(B:Bs mg base a):aV P w K mg base (VB P w) 10 a.acX a.acj ["tables","look","node"] (RG ZD 8 a.Tr a.TX):=by
 refine T.adc.F.ok1 nj (λvs H Q E h=>?_) (λa1 A R s H vs Q E u h=>?_)
 ·obtain⟨p,S,v,k,rfl,_⟩:=h;rfl
 obtain⟨p,S,v,k,rfl,d,h⟩:=h;refine(_,(aj (aA 3 nj.nd (aB bc (aF T.aeW (Fj T B) u (aa (pv 0) (aa (pv 1) (aa (xJ T.Ze (sH T) (by decide) u LR rfl (aa (pv 0) (aa (pv 1) (aa (pv 2) ak)))) ak)))) ao))
  (aj (aX (PW.pt (nu (aG cT (pv 3) (aW aU (pv 0) ao)) (kI (aG cT (aF T.Ws (jL T) u (aa (pv 0) (aa (pv 1) (aa (pv 3) ak)))) ao)))) (aq (aD dY)) aL)
  (aq (aD (aF T.aeZ (Fe T B) u (aa (pv 0) (aa (pv 1) (aa (pv 3) ak)))))))),?_)
 have a0:=d.few;exists _,rfl,_,rfl,_,rfl,_,rfl,_,rfl,p,S,v,k,rfl,d;rcases h with ⟨j,rfl,hj,q⟩|⟨N,e⟩
 rotate_left
 ·exact .inr (N,e)
 refine .inl (j,rfl,hj,λx Tv H1 g n I=>?_);have l1:=I.wr.len;have Y:=d.b.did I (by lia);have J:=d.deep g n;refine(p,Tv,x,rfl,Y,by lia,d.tree,g,λc Z H2 hc G=>?_);have D:=yI d.bits g hc;have l2:=G.wr.len;have f:=Y.did G (by lia);have l:=I.trans G;obtain⟨_,C⟩:=d.beneath g n D;have W:=D.eq;have XD:=D.XD;have i:p.ns[c+1]? ≠ some 1->v[j+1+run v (j+1) (ht p.ns x)]? ≠ some (ht p.ns x):=λn1 z=>by
  obtain⟨r,U,r2⟩:=d.at (aab.mp z).1;have e:=d.deep U r2;rw[z]at e;have e:=aap e;have e1:ht p.ns r=2*(p.ns.take r).sum - ((r:Nat):Int):=rfl;have e2:ht p.ns (c+1)=2*(p.ns.take (c+1)).sum - ((c+1:Nat):Int):=rfl;have:r=c+1:=by lia
  subst this;exact n1 U
 exists _,_,rfl,rfl,_,rfl,_,rfl,p.t,_,_,_,rfl,rfl,S7.of f.ask.tab.tup,mU _ _ _ f.ask.tab.few,rfl,_,rfl;by_cases o:c+1=p.ns.length
 ·rw[decide_eq_true (show V.int ((c:Int)+1)=V.int (p.ns.length:Int)from congrArg V.int (by lia))];refine jr (jr (q _ Z H2 (_,J,.inr (rfl,i (by rw[o,agq (aac _)];exact nofun))) (l.le (by decide))))
 rw[decide_eq_false (show ¬V.int ((c:Int)+1)=V.int (p.ns.length:Int)from λz=>o (by have:=V.int.inj z;lia))];obtain⟨b,m⟩:∃b,p.ns[c+1]?=some b:=(_,aad (by lia));refine dN (_,rfl,_,rfl,_,rfl,p.t,p.L,p.ah,p.ns,Z,[.ref p.nd],c+1,b,rfl,f.ask,by lia,m,λX H3 w3 s3=>(rfl,_,rfl,?_));have y:=f.look w3 s3;have l3:=y.wr.len;have O:=f.did y (by lia);rcases d.bits b (aag m)with rfl|rfl
 ·exact jr (q _ X H3 (_,J,.inr (rfl,i (by rw[m];exact nofun))) ((l.trans y).le (by decide)))
 ·refine dN (_,rfl,_,rfl,_,rfl,p,X,c+1,rfl,O,by lia,d.tree,.inl (m,λM H4 d4=>q _ M H4 (_,J,.inl (by rw[C],?_)) ((l.trans y).trans d4)));rw[<-W];rw[<-W]at C;exact d.deep m C
def ZF(b:List Int):Prop:=∀z∈b,-(10:Int)^60<z/\z<10^60
inductive uH(K:PySem.W.Frag)(vs:List V)(H:Hp)(Q:VK)(_e1:XK):Prop
 | mk (p:Addr) (ns:List Int) (_:vs=[.ref p]) (_:My K H p (ns.map V.int)) (_:ns.length<=4096) (_:ZF ns) (_:Q .non H)
theorem vQ(T:Tx K mg a):aV P w K mg base S6 1 a.aca a.abG ["signs"] (uH K):=by
 refine T.acu.F.S9 lH λt A j s H u Q E e h=>?_;obtain⟨p,l,rfl,f,y,r,q⟩:=h;refine(_,(aj (aX (aG jf (aK aN rfl T.Th Tw.bh (aa (pv 0) ak)) (bG (v:=.int 4096) rfl T.ae4 (_,rfl))) (aq bW) aL)
  (aq (bI PassesOwn.never rfl (bO (pv 0)) (aR 1 lH.nd) (aq (aX (nG (v8 jH jH (lC jc (aB LQ ao ao)) (pv 1) (aB LQ ao ao))) (aq bW) aL))))),?_)
 refine(_,rfl,p,_,rfl,.inl f,_,_,rfl,rfl,_,rfl,bC (λc=>?_) λc=>?_)
 ·have c:(4096:Int)<((l.map V.int).length:Int):=of_decide_eq_true c;rw[aaa]at c;lia
 exists _,rfl,p,rfl,(_,f);refine b7 (xs:=l.map V.int) (λi b d=>(∃k,b=[some (.ref p),k])/\d=H) ((none,rfl),rfl) ?_ ?_ ?_
 ·rintro i b d _ ⟨_,rfl⟩;exact f
 ·rintro i x b d o ⟨⟨k,rfl⟩,rfl⟩;obtain⟨z,n,rfl⟩:=int_at o;have e:=r z (aag n);refine(_,_,rfl,rfl,(by decide,by decide,by decide),_,rfl,_,rfl,_,_,rfl,rfl,_,rfl,bC (λm=>?_) λm=>absurd (decide_eq_true e.1) m);refine(_,_,rfl,rfl,(by decide,by decide,by decide),_,_,rfl,rfl,_,rfl,bC (λg=>?_) λg=>((_,rfl),rfl));rw[decide_eq_true (show z<10^(60:Int).toNat from e.2)]at g;exact absurd g (by decide)
 ·rintro b d ⟨_,rfl⟩;exact q
def rks(c b:List Int):List Int:=b.map λz=>(c.idxOf z:Int)
inductive uT(K:PySem.W.Frag)(vs:List V)(H:Hp)(Q:VK)(_e1:XK):Prop
 | mk (q p:Addr) (ms ns:List Int) (_:vs=[.ref q,.ref p]) (_:My K H q (ms.map V.int)) (_:My K H p (ns.map V.int)) (_:ms.Nodup) (_:(∀z∈ns,z∈ms)) (_:ms.length<=4096) (_:ns.length<=4096) (_:∀r H',H r=none->aO H H'->H' r=some (.lst ((rks ms ns).map V.int))->Q (.ref r) H')
theorem vU(T:Tx K mg a):aV P w K mg base S6 1 a.acd a.abH ["kinds","signs"] (uT K):=by
 refine T.acv.F.S9 fj λa0 A L s H vs Q E S h=>?_;obtain⟨R,p,u,ns,rfl,X,W,nd,J,hm,hn,q⟩:=h;refine(_,(aj (q9 (i:=2) fj.nd rfl (ahs rfl) Cp)
  (aj (bI PassesOwn.never rfl (uh rfl T.Wu (aa (pv 0) ak)) (lr rfl (bV (aR 3 fj.nd) (bV (aR 4 fj.nd) ji))) (aq (zY (agd (agD (by decide:1<=64) _) S.units) (pv 2) (pv 4) (pv 3) rfl)))
  (aq (aD (oR rfl (cH.one (j:=2) rfl (agG rfl) rfl rfl (agG rfl)) (bO (pv 1)) (λ_ _ _ _=>fU) (λ_ _ _ _=>(Od (agd (agD (by decide:1<=64) _) S.units) (pv 1) (pv 0) (λ_ _=>rfl)))))))),?_)
 intro d hd;have N:=az hd (.dK []);exists _,rfl,R,_,rfl,N.seq X;refine vI (xs:=u.map V.int) (λi t r=>(∃G C,t=[some (.ref R),some (.ref p),some (.ref d),G,C])/\aO H r /\ ∃b:List (Key×V),r d=some (.dK b)/\b.length<=i /\ ∀(j:Nat) (z:Int),j<i->u[j]?=some z->fO b (Sum.inl z)=some (.int (j:Int))) ((none,none,rfl),N,[],au,aac _,λj z U=>absurd U (agl _)) ?_ ?_ ?_
 ·rintro i t r _ ⟨_,c,_⟩;exact c.seq X
 ·rintro i x t r pt hx ⟨⟨G,C,rfl⟩,c,b,B,hl,v⟩ Wa;obtain⟨z,f,rfl⟩:=int_at hx;have I:=(aab.mp f).1;have M:=az Wa (.tup [.int (i:Int),.int z]);exists pt,_,rfl,S7.of au,rfl,_,_,rfl,_,_,rfl,rfl;exists _,rfl,_,rfl,_,rfl,d,_,rfl,.inl (b,Sum.inl z,M _ _ B,rfl,by rw[sizeLine_eq];lia,rfl);refine((_,_,rfl),bK (c.trans M) hd _,_,au,?_,λj y U o=>?_)
  ·have:=CV b (Sum.inl z) (.int (i:Int));lia
  ·rw[Am];by_cases e:y=z
   ·subst e;rw[if_pos rfl];have:j=i:=by
     have n:=(aab.mp o).1;rw[aad n]at o;rw[aad I]at f;have e:=(aap o).trans (aap f).symm;have O:=abR.mp nd;rcases agw j i with l|l|l
     ·exact absurd e (O j i n I l)
     ·exact l
     ·exact absurd e.symm (O i j I n l)
    rw[this]
   ·rw[if_neg (λz=>e (Sum.inl.inj z))];refine v j y ?_ o;rcases aas j i with l|l
    ·exact l
    ·have:j=i:=by lia
     subst this;rw[f]at o;exact absurd (aap o).symm e
 ·rintro t r ⟨⟨G,C,rfl⟩,c,b,B,hl,v⟩;rw[aaa]at v;exists _,rfl,p,rfl,(_,c.seq W);refine yo (λz=>(u.idxOf z:Int)) (c.seq W) (by rw[sizeLine_eq];lia) (λ_ _ _ q=>q) (λz H2 Q f Z q=>(_,rfl,_,rfl,d,_,rfl,?_,q)) λD Y=>?_
  ·have f:=J z f;have m:=ahv f;have e:=v (u.idxOf z) z m (by rw[aad m];exact congrArg some (aij m));have g:=yJ.k (k:=Sum.inl z) (Z _ _ B);rw[e]at g;exact g
  ·exact q D _ (c.free Y) (c.trans (az Y _)) au
inductive vq(vs:List V)(H:Hp)(Q:VK)(_e1:XK):Prop
 | mk (n:Nat) (_:vs=[.int (n:Int)]) (_:n<=100000) (_:∀h:Nat,ir n (2^h)->Q (.int (h:Int)) H)
theorem Ko(h:Nat):Builtin.Int.intBits ((2^h:Nat):Int)=h+1:=by
 unfold Builtin.Int.intBits;have:0<2^h:=afS h;rw[if_neg (by rw[beq_iff_eq];lia),Int.natAbs_natCast,Nat.log2_two_pow]
theorem vH(T:Tx K mg a):aV P w K mg base S6 2 a.ace a.abI ["kind_count"] vq:=by
 refine T.acw.F.S9 v5 λj A b s H k Q E c h=>?_;obtain⟨n,rfl,d,q⟩:=h;exists _,(aq (aD (aB bz (QX PySem.F.plainAttrs_int PySem.F.slot_int_bit_length PySem.F.type_int_bit_length w6 (aF T.Wq (iW T) c (aa (pv 0) ak))) ao)));refine(_,rfl,n,rfl,d,λS f=>?_);obtain⟨h,rfl,i,g⟩:=f;exists rfl,_,rfl,rfl,_,_,rfl,rfl;have e:((Builtin.Int.intBits ((2^h:Nat):Int):Nat):Int) - 1=(h:Int):=by
  rw[Ko];lia
 show Q (.int (((Builtin.Int.intBits ((2^h:Nat):Int):Nat):Int) - 1)) H;rw[e];exact q h (h,rfl,i,g)
def Ur(os:List Int)(k:Nat):List Int:=(os.filter λz=>bit z k=0)++os.filter λz=>bit z k=1
theorem uo(os:List Int)(k:Nat):(Ur os k).length=os.length:=by
 unfold Ur;rw[aaf]
 induction os with
 | nil=>rfl
 | cons z os b =>
  have:bit z k=0\/bit z k=1:=by
   unfold bit;lia
  rcases this with e|e
  ·simp only[agE,e,decide_true,if_true,aaY,show decide ((0:Int)=1)=false from rfl,acr,if_false];lia
  ·simp only[agE,e,decide_true,if_true,aaY,show decide ((1:Int)=0)=false from rfl,acr,if_false];lia
theorem Ci(os:List Int)(f:Int->Int)(c:Int):((os.zip (os.map f)).filter λp=>decide (V.int p.2=V.int c)).map (λp=>p.1)=os.filter λz=>f z=c:=by
 induction os with
 | nil=>rfl
 | cons z os b =>
  rw[aaA,agH,agE,agE];by_cases e:f z=c
  ·rw[if_pos (decide_eq_true (by rw[e])),if_pos (decide_eq_true e),aaA,b]
  ·rw[if_neg (by simp[e]),if_neg (by simp[e]),b]
inductive Jb(K:PySem.W.Frag)(vs:List V)(H:Hp)(Q:VK)(_e1:XK):Prop
 | mk (p r:Addr) (os:List Int) (k:Nat) (_:vs=[.ref p,.ref r]) (_:My K H p (os.map V.int)) (_:My K H r ((os.map λz=>bit z k).map V.int)) (_:os.length<=4096) (_:∀l H',H l=none->aO H H'->H' l=some (.lst ((Ur os k).map V.int))->Q (.ref l) H')
theorem Hl(T:Tx K mg a):aV P w K mg base S6 1 a.afm a.aeP ["order","bits"] (Jb K):=by
 refine T.afr.F.S9 rH λI A n s H J Q E L h=>?_;obtain⟨p,r,b,k,rfl,g,f,M,q⟩:=h;refine(_,(aj (pU (i:=2) rH.nd rfl rfl rfl (cH.zero,rfl,by decide) (DY rfl T.Zm Tw.Fv (aa (pv 0) (aa (pv 1) ak))) (λ_ _ _ _=>(GC (aG cT (pv 1) ao))) (λ_ _ _ _=>(pv 0)))
  (aj (pU (i:=3) rH.nd rfl rfl rfl (cH.zero,rfl,by decide) (DY rfl T.Zm Tw.Fv (aa (pv 0) (aa (pv 1) ak))) (λ_ _ _ _=>(GC (aG cT (pv 1) ao))) (λ_ _ _ _=>(pv 0)))
  (aq (aD (aB mC (pv 2) (pv 3)))))),?_)
 exists _,rfl,_,rfl,p,r,_,_,rfl,g,f;refine yd (os:=b) (bs:=b.map λz=>bit z k) (λ_ y=>decide (V.int y=V.int 0)) (λx _=>x) g f (by rw[aaa]) (by rw[sizeLine_eq];lia) (λx y m Q j q=>(_,rfl,rfl,_,rfl,q)) (λx y m Q j q=>(_,rfl,q)) λC O G c t=>?_;rw[Ci]at t;exists _,rfl,_,rfl,p,r,_,_,rfl,c.seq g,c.seq f;refine yd (os:=b) (bs:=b.map λz=>bit z k) (λ_ y=>decide (V.int y=V.int 1)) (λx _=>x) (c.seq g) (c.seq f) (by rw[aaa]) (by rw[sizeLine_eq];lia) (λx y m Q j q=>(_,rfl,rfl,_,rfl,q)) (λx y m Q j q=>(_,rfl,q)) λB N D v o=>?_;rw[Ci]at o;have e:=uo b k;unfold Ur at e;rw[aaf]at e;refine(_,rfl,_,rfl,C,B,_,_,rfl,rfl,v _ _ t,o,?_,λl d=>?_)
 ·rw[aaa,aaa,sizeLine_eq];lia
 have u:=c.trans v;refine q l _ (u.free d) (u.trans (az d _)) ?_;rw[au];unfold Ur;rw[aal]
def Tq:Nat->List Int->List (List Int)
 | 0,_=>[]
 | k+1,b=>(b.map λz=>bit z k)::Tq k (Ur b k)
theorem mL:∀(k:Nat) (os:List Int),(Tq k os).length=k
 | 0,_=>rfl
 | k+1,os=>by
  unfold Tq;rw[aaY,mL k]
theorem uv:∀(k:Nat) (os bs:List Int),bs∈Tq k os->aZ bs/\bs.length=os.length
 | 0,_,_,h=>by cases h
 | k+1,os,bs,h=>by
  unfold Tq at h;rcases aaH.mp h with rfl|h
  ·refine(λx b=>?_,aaa ..);obtain⟨z,_,rfl⟩:=abl.mp b;unfold bit;lia
  ·obtain⟨d,c⟩:=uv k _ _ h;exact(d,c.trans (uo os k))
def sY(H:Hp)(c:List Addr)(d:List (List Int)):Prop:=c.length=d.length /\ ∀(i:Nat) (l:Addr) (b:List Int),c[i]?=some l->d[i]?=some b->H l=some (.lst (b.map V.int))
theorem sY.same{H':Hp}{b:List (List Int)}(h:sY H j b)(s:aO H H'):sY H' j b:=(h.1,λi l c e d=>s _ _ (h.2 i l c e d))
theorem sY.snoc{g:List (List Int)}{l:Addr}{xs:List Int}(h:sY H j g)(e:H l=some (.lst (xs.map V.int))):sY H (j++[l]) (g++[xs]):=by
 refine(by rw[aaf,aaf,h.1];rfl,λi k f b d=>?_);rcases aas i j.length with c|c
 ·rw[aaw c]at b;rw[aaw (by rw[<-h.1];exact c)]at d;exact h.2 i k f b d
 ·rw[aaz c]at b;rw[aaz (by rw[<-h.1];exact c),<-h.1]at d;have:i - j.length=0:=by
   have:=(aab.mp b).1;simp at this;lia
  rw[this]at b d;cases b;cases d;exact e
theorem sY.upd{c:List (List Int)}{x:Addr}{o:HO}(h:sY H j c)(e:x∉j):sY (upd H x o) j c:=
 (h.1,λi l d b f=>by rw[aH (λz:l=x=>e (z ▸ aag b))];exact h.2 i l d b f)
def Vv(K:PySem.W.Frag)(H:Hp)(r o:Addr)(xs:List V):Prop:=(Rd H o (.lst xs)/\o≠r) \/ ∀b,My K b o xs
theorem Vv.of{r o:Addr}{xs:List V}(h:My K H o xs)(b:H r=none):Vv K H r o xs:=by
 rcases h with h|h
 ·refine .inl (h,λz=>?_);subst z;unfold Rd at h;rcases h with h|⟨_,h⟩
  ·rw[b]at h;cases h
  ·rw[b]at h;cases h
 ·exact .inr λ_=>.inr h
theorem Vv.sq{r o:Addr}{xs:List V}(h:Vv K H r o xs):My K H o xs:=by
 rcases h with h|h
 ·exact .inl h.1
 ·exact h H
theorem Vv.to{H':Hp}{r o:Addr}{xs:List V}(h:Vv K H r o xs)(s:∀b u,b≠r->H b=some u->H' b=some u):Vv K H' r o xs:=by
 rcases h with ⟨h,n⟩|h
 ·refine .inl (?_,n);unfold Rd at h ⊢;rcases h with h|⟨c,h⟩
  ·exact .inl (s _ _ n h)
  ·exact .inr (c,s _ _ n h)
 ·exact .inr h
inductive wk(K:PySem.W.Frag)(vs:List V)(H:Hp)(Q:VK)(_e1:XK):Prop
 | mk (p:Addr) (os:List Int) (n:Nat) (_:vs=[.ref p,.int (n:Int)]) (_:My K H p (os.map V.int)) (_:os.length<=4096) (_:n<=4096) (_:∀(h:Nat) (r:Addr) (ls:List Addr) (H':Hp),ir n (2^h)->h<=12->H r=none->aO H H'->H' r=some (.lst (ls.map V.ref))->sY H' ls (Tq h os)->(∀l∈ls,H l=none)->Q (.ref r) H')
theorem Rz{n :Nat}(g:n<=4096)(b:ir n (2^i)):i<=12:=by
 obtain⟨f,e,j,d⟩:=b;have:i=f:=(Nat.pow_right_inj (a:=2) (by decide)).mp e;subst this;rcases aas 12 i with c|c
 ·have:=d 12 c;lia
 ·exact c
theorem wK(T:Tx K mg a):aV P w K mg base S6 3 a.acT a.acf ["ranks","kind_count"] (wk K):=by
 refine T.ac9.F.S9 cU λa4 A a3 s H vs Q E hr h=>?_;obtain⟨p,t,n,rfl,hS,X,hn,q⟩:=h;refine(_,(aj (aA 2 cU.nd (cX ak))
  (aj (aA 3 cU.nd (pv 0))
  (aj (bI PassesOwn.never rfl (Aw rfl T.Wb (aa (aB bz (aF T.acw (vH T) hr (aa (pv 1) ak)) ao) (aa (lC jc ao) (aa (lC jc ao) ak)))) (mK (i:=4) cU.nd rfl (ahs rfl)) (aj (j0 (i:=5) cU.nd rfl rfl rfl (cH.one (j:=4) rfl (agG rfl) rfl rfl (agG rfl)) (bO (pv 3)) (λ_ _ _ _=>fU) (λ_ _ _ _=>(aF T.XQ (qD T) hr (aa (pv 0) (aa (pv 1) ak)))))
  (aj (bu (gR PySem.F.plainAttrs_list PySem.F.slot_list_append PySem.F.type_list_append bZ (pv 2) (aa (pv 5) ak)))
  (aq (aA 3 cU.nd (aF T.afr (Hl T) hr (aa (pv 3) (aa (pv 5) ak))))))))
  (aq (aD (pv 2)))))),?_)
 refine((by show 0<=sizeLine;decide),λr v=>(_,rfl,?_));have s0:=az v (.lst []);refine(_,rfl,n,rfl,by lia,λh hz=>?_);have a2:=Rz hn hz;refine(_,_,rfl,rfl,_,rfl,_,rfl,(h:Int) - 1,-1,rfl,by lia,by decide,by lia,by decide,?_);refine Dd (λi σ m=>∃(o:Addr) (c:List Int) (d:List Addr) (k4 k5:Option V) (C:List (List Int)),σ=[some (.ref p),some (.int (n:Int)),some (.ref r),some (.ref o),k4,k5]/\aO H m/\Vv K m r o (c.map V.int)/\c.length=t.length/\m r=some (.lst (d.map V.ref))/\sY m d C/\C.length=i/\(∀l∈d,H l=none/\l≠r)/\Tq h t=C++Tq (h - i) c) ?_ ?_ ?_
 ·exact(p,t,[],none,none,[],rfl,s0,(Vv.of hS v).to (λb u n e=>by rw[aH n];exact e),rfl,au,(rfl,λi l xs e=>by cases e),rfl,(λl X=>nomatch X),rfl)
 ·rintro i σ m hi ⟨o,c,d,k4,k5,C,rfl,G,I,R,f,g,B,y,Y⟩;have ei:(h:Int) - 1+(i:Int) * -1=((h - 1 - i:Nat):Int):=by lia
  rw[ei];obtain⟨k,hk⟩:∃k,h - i=k+1:=(h - i - 1,by lia);have ek:h - 1 - i=k:=by lia
  rw[ek];exists _,rfl,o,rfl,(_,I.sq);refine yo (λz=>bit z k) I.sq (by rw[sizeLine_eq];lia) (λ_ _ _ q=>q) (λz H2 Q hz s2 q=>(_,rfl,_,rfl,z,(k:Int),rfl,by lia,q)) λb Z=>?_;have W:=az Z (.lst ((c.map λz=>bit z k).map V.int));have xb:upd m b (.lst ((c.map λz=>bit z k).map V.int)) b=some (.lst ((c.map λz=>bit z k).map V.int)):=au;have a0:H b=none:=G.free Z;have N:b≠r:=λz=>by rw[z,f]at Z;cases Z
  replace I:=I.to λb u _ e=>W b u e
  replace f:=W _ _ f
  replace g:=g.same W
  replace G:=G.trans W
  generalize upd m b (.lst ((c.map λz=>bit z k).map V.int))=L at *;exists _,rfl,.inl (rfl,_,My.of f),_,rfl,r,_,_,rfl,rfl,f,?_
  ·rw[aaa,g.1,B,sizeLine_eq];lia
  have s2:=bK G v (.lst (d.map V.ref++[.ref b]));have M:upd L r (.lst (d.map V.ref++[.ref b])) b=some (.lst ((c.map λz=>bit z k).map V.int)):=by rw[aH N];exact xb
  have a1:=(I.to (H':=upd L r (.lst (d.map V.ref++[.ref b]))) λb u n e=>by rw[aH n];exact e).sq;have U:sY (upd L r (.lst (d.map V.ref++[.ref b]))) (d++[b]) (C++[c.map λz=>bit z k]):=(g.upd λz=>(y r z).2 rfl).snoc M;have O:upd L r (.lst (d.map V.ref++[.ref b])) r=some (.lst ((d++[b]).map V.ref)):=by
   rw[au,aal];rfl
  generalize upd L r (.lst (d.map V.ref++[.ref b]))=H2 at *;refine(_,rfl,_,rfl,o,b,c,k,rfl,a1,My.of M,by lia,λl H3 S D x3=>?_);exists l,Ur c k,d++[b],_,_,C++[c.map λz=>bit z k],rfl,s2.trans D,.inl (.inl x3,?_),(uo c k).trans R,D _ _ O,U.same D,?_,λx J=>?_
  ·intro z;rw[z,O]at S;cases S
  ·rw[aaf,B];rfl
  ·rcases abn.mp J with J|J
   ·exact y x J
   ·rw[aaj.mp J];exact(a0,N)
  ·rw[Y,hk,abm,show h - (i+1)=k from by lia];rfl
 ·rintro σ m ⟨o,c,d,k4,k5,C,rfl,G,I,R,f,g,B,y,Y⟩;have ei:((h:Int) - 1 - -1).toNat=h:=by lia
  rw[ei]at B Y;have:Tq h t=C:=by
   rw[Y,ag0];exact agJ _
  rw[<-this]at g;exact(_,rfl,q h r d m hz a2 v G f g λl X=>(y l X).1)
theorem Qh(c:List Int)(z:Int):z∈met (λi=>c.getD i 0) c.length ↔ z∈c:=by
 rw[tZ];constructor
 ·rintro⟨i,b,rfl⟩;rw[af6,aad b];exact abX b
 ·intro h;obtain⟨i,b,rfl⟩:=afY h;exact(i,b,by rw[af6,aad b];rfl)
structure Kinds(ns ms:List Int):Prop where
 up:ms.Pairwise (· < ·)
 mem:∀z,z∈ms ↔ z∈ns
theorem Kinds.nd(h:Kinds d M):M.Nodup:=h.up.imp λa=>Int.ne_of_lt a
theorem kinds_of{e:List Int}(f:e=met (λi=>d.getD i 0) d.length)(c:afv M e)(g:M.Pairwise (· <= ·)):Kinds d M:=by
 have h:M.Nodup:=c.nodup_iff.mpr (by rw[f];exact mV _ _);refine((g.and h).imp λ⟨a,b⟩=>by lia,λz=>?_);rw[c.mem_iff,f];exact Qh d z
def tD(H:Hp)(c:List Addr)(d:List (List Int)):Prop:=c.length=d.length /\ ∀(i:Nat) (l:Addr) (b:List Int),c[i]?=some l->d[i]?=some b->H l=some (.tup (b.map V.int))
theorem tD.to{H':Hp}{c:List (List Int)}(h:tD H j c)(s:∀b xs,H b=some (.tup xs)->H' b=some (.tup xs)):tD H' j c:=(h.1,λi l xs e d=>s _ _ (h.2 i l xs e d))
theorem tD.snoc{g:List (List Int)}{l:Addr}{xs:List Int}(h:tD H j g)(e:H l=some (.tup (xs.map V.int))):tD H (j++[l]) (g++[xs]):=by
 refine(by rw[aaf,aaf,h.1];rfl,λi k f b d=>?_);rcases aas i j.length with c|c
 ·rw[aaw c]at b;rw[aaw (by rw[<-h.1];exact c)]at d;exact h.2 i k f b d
 ·rw[aaz c]at b;rw[aaz (by rw[<-h.1];exact c),<-h.1]at d;have:i - j.length=0:=by
   have:=(aab.mp b).1;simp at this;lia
  rw[this]at b d;cases b;cases d;exact e
structure Kept(H:Hp)(r t b k c:Addr)(ns ms:List Int)(h:Nat)(ls:List Addr):Prop where
 r:H r=some (.tup [.ref t,.ref b])
 t:H t=some (.tup [.int (ns.length:Int),.ref k,.ref c])
 k:H k=some (.tup (ms.map V.int))
 c:H c=some (.tup (ls.map V.ref))
 ls:tD H ls ((Tq h (rks ms ns)).map λbs=>TQ bs (many ns.length))
 b:H b=some (.lst ((((Tq h (rks ms ns)).map bD).flatten).map V.int))
 kd:Kinds ns ms
 sz:ir ms.length (2^h)
 h12:h<=12
inductive wM(K:PySem.W.Frag)(vs:List V)(H:Hp)(Q:VK)(_e1:XK):Prop
 | mk (p:Addr) (ns:List Int) (_:vs=[.ref p]) (_:My K H p (ns.map V.int)) (_:ns.length<=4000) (_:ZF ns) (_:∀(r t b k c:Addr) (ms:List Int) (h:Nat) (ls:List Addr) (H':Hp),H b=none->aO H H'->Kept H' r t b k c ns ms h ls->Q (.ref r) H')
theorem wF(T:Tx K mg a):aV P w K mg base S6 6 a.acS a.acb ["signs"] (wM K):=by
 refine T.ac8.F.S9 cW λd5 A d0 s H vs Q E hr h=>?_;obtain⟨p,d,rfl,hS,hl,hi,q⟩:=h;refine(_,(aj (bu (aF T.acu (vQ T) hr (aa (pv 0) ak)))
  (aj (aA 1 cW.nd (aK (yG rfl) rfl T.Zk Tw.qP (aa (cI (Hz rfl) rfl T.Zj Tw.Dv (aa (pv 0) ak)) ak)))
  (aj (aA 2 cW.nd (cX ak))
  (aj (aA 3 cW.nd (cX ak))
  (aj (bI PassesOwn.never rfl (bO (aF T.ac9 (wK T) hr (aa (aF T.acv (vU T) hr (aa (pv 1) (aa (pv 0) ak))) (aa (aK aN rfl T.Th Tw.bh (aa (pv 1) ak)) ak)))) (aR 4 cW.nd) (aj (aA 5 cW.nd (aF T.XX (lq T) hr (aa (pv 4) ak)))
  (aj (bu (gR PySem.F.plainAttrs_list PySem.F.slot_list_append PySem.F.type_list_append bZ (pv 2) (aa (aW aU (aW aU (pv 5) ao) ao) ak)))
  (aq (bu (gR PySem.F.plainAttrs_list PySem.F.slot_list_extend PySem.F.type_list_extend qz (pv 3) (aa (aW aU (pv 5) ao) ak)))))))
  (aq (aD (iM (aa (iM (aa (aK aN rfl T.Th Tw.bh (aa (pv 0) ak)) (aa (cI gb rfl T.X5 Tw.oV (aa (pv 1) ak)) (aa (cI gb rfl T.X5 Tw.oV (aa (pv 2) ak)) ak)))) (aa (pv 3) ak)))))))))),?_)
 exists _,rfl,p,d,rfl,hS,by lia,hi;have d1:(met (λi=>d.getD i 0) d.length).length<=d.length:=uq _ _;refine(_,rfl,p,d,rfl,hS,?_,λl0 ks o0 a0 a1 ZG=>(l0,ks,rfl,by rw[au,ZG],λy g a2 pm b2=>?_))
 ·have:scanBound=4096:=rfl;lia
 have sA:=(az a0 o0).trans (az a2 (.lst (g.map V.int)));have B:upd (upd H l0 o0) y (.lst (g.map V.int)) y=some (.lst (g.map V.int)):=au;have d2:H y=none:=(az a0 _).free a2;have hK:=kinds_of a1 pm b2;have c1:∀z∈d,z∈g:=λz hz=>(hK.mem z).mpr hz;have lm:g.length<=4000:=by rw[pm.length_eq,a1];lia
 generalize upd (upd H l0 o0) y (.lst (g.map V.int))=H1 at *;refine((by show 0<=sizeLine;decide),λf X=>((by show 0<=sizeLine;decide),λm U0=>?_));have sB:=(az X (.lst [])).trans (az U0 (.lst []));have ZJ:f≠m:=aJ au U0;have U:upd (upd H1 f (.lst [])) m (.lst []) f=some (.lst []):=by rw[aH ZJ];exact au
 have S:upd (upd H1 f (.lst [])) m (.lst []) m=some (.lst []):=au;have a7:H f=none:=sA.free X;have G:H m=none:=sA.free ((az X _).free U0);have b6:y≠f:=aJ B X;have b5:y≠m:=aJ B ((az X _).free U0)
 replace B:=sB _ _ B
 have sC:=sA.trans sB;generalize upd (upd H1 f (.lst [])) m (.lst [])=H2 at *;refine(_,rfl,_,rfl,y,p,g,d,rfl,My.of B,sC.seq hS,hK.nd,c1,by lia,by lia,λrk H3 d3 u x3=>?_);refine(_,rfl,y,_,rfl,.inl (My.of (u _ _ B)),rk,rks g d,g.length,?_,My.of x3,(by unfold rks;rw[aaa];lia),by lia,λh Tt ls H4 hz c9 Yb Up x4 L a3=>?_)
 ·rw[aaa];rfl
 have c4:∀l∈ls,l≠f/\l≠m:=λl hl=>((aJ (u _ _ U) (a3 l hl)).symm,(aJ (u _ _ S) (a3 l hl)).symm);have b4:Tt≠f:=(aJ (u _ _ U) Yb).symm;have b3:Tt≠m:=(aJ (u _ _ S) Yb).symm;have sD:=u.trans Up
 replace B:=sD _ _ B
 replace U:=sD _ _ U
 replace S:=sD _ _ S
 have sE:=sC.trans sD;have d4:ls.length=h:=by rw[L.1,mL]
 exists Tt,rfl,(_,My.of x4);refine b7 (xs:=ls.map V.ref) (λi σ D=>(∃k4 k5,σ=[some (.ref p),some (.ref y),some (.ref f),some (.ref m),k4,k5])/\aO H D/\(∀b o,b≠f->b≠m->H4 b=some o->D b=some o) /\ ∃j:List Addr,D f=some (.lst (j.map V.ref))/\D m=some (.lst (((((Tq h (rks g d)).take i).map bD).flatten).map V.int))/\tD D j (((Tq h (rks g d)).take i).map λn=>TQ n (many d.length))/\((((Tq h (rks g d)).take i).map bD).flatten).length<=128*i) ?_ ?_ ?_ ?_
 ·exact((none,none,rfl),sE,λb o _ _ e=>e,[],U,S,(rfl,λi l I e=>by cases e),aaK _)
 ·rintro i σ D _ ⟨_,_,R,_⟩;exact My.of (R _ _ b4 b3 x4)
 ·rintro i x σ D hx ⟨⟨k4,k5,rfl⟩,sm,R,j,ya,yb,hts,XN⟩;rw[aah]at hx;obtain⟨l,M,rfl⟩:=abu.mp hx;have c5:=(aab.mp M).1;obtain⟨n,N⟩:∃n,(Tq h (rks g d))[i]?=some n:=(_,aad (by rw[<-L.1];exact c5));obtain⟨c7,a6⟩:=uv h _ n (aag N);have c2:(rks g d).length=d.length:=by unfold rks;exact aaa ..
  have c6:n.length=d.length:=a6.trans c2;have Yc:=c4 l (aag M);have yl:=R _ _ Yc.1 Yc.2 (L.2 i l n M N);have XM:j.length=i:=by
   rw[hts.1,aaa,aaI,mL];lia
  refine(_,rfl,l,n,rfl,My.of yl,by lia,c7,λr b t v C c8 W y1 Z y2=>?_);have Yd:=W _ _ ya;have a8:=W _ _ yb;have b9:b≠f:=(aJ ya c8).symm;exists _,rfl,.inl (rfl,_,My.of Yd),_,rfl,r,_,_,_,rfl,rfl,S7.of y1,rfl,t,_,_,_,rfl,rfl,S7.of Z.tup,rfl,f,_,_,rfl,rfl,Yd,?_
  ·rw[aaa,XM,sizeLine_eq];lia
  have a4:r≠f:=λz=>by rw[z,Yd]at y1;cases y1
  have b1:upd C f (.lst (j.map V.ref++[.ref v])) r=some (.tup [.ref t,.ref b]):=by rw[aH a4];exact y1
  have b0:upd C f (.lst (j.map V.ref++[.ref v])) b=some (.lst ((bD n).map V.int)):=by rw[aH b9];exact y2
  have ZK:upd C f (.lst (j.map V.ref++[.ref v])) m=some (.lst (((((Tq h (rks g d)).take i).map bD).flatten).map V.int)):=by rw[aH (ae2 ZJ)];exact a8
  have a9:upd C f (.lst (j.map V.ref++[.ref v])) f=some (.lst ((j++[v]).map V.ref)):=by rw[au,aal];rfl
  have s6:=bK (sm.trans W) a7 (.lst (j.map V.ref++[.ref v]));have c0:∀c o,c≠f->c≠m->H4 c=some o->upd C f (.lst (j.map V.ref++[.ref v])) c=some o:=λc o n1 n2 e=>by rw[aH n1];exact W _ _ (R c o n1 n2 e)
  have Y:∀c I,C c=some (.tup I)->upd C f (.lst (j.map V.ref++[.ref v])) c=some (.tup I):=λc I e=>by
   rw[aH λz=>?_]
   ·exact e
   ·rw[z,Yd]at e;cases e
  have a5:tD (upd C f (.lst (j.map V.ref++[.ref v]))) (j++[v]) ((((Tq h (rks g d)).take i).map λn=>TQ n (many d.length))++[TQ n (many d.length)]):=by
   refine tD.snoc (hts.to λc I e=>Y _ _ (W _ _ e)) (Y _ _ ?_);have:=Z.Uo;rw[c6]at this;exact this
  have pl:(bD n).length<=128:=by rw[bA];unfold many;lia
  generalize upd C f (.lst (j.map V.ref++[.ref v]))=H6 at *;have ZL:(Tq h (rks g d)).take (i+1)=(Tq h (rks g d)).take i++[n]:=by rw[abW,N];rfl
  exists _,rfl,.inl (rfl,_,My.of ZK),_,rfl,r,_,_,_,rfl,rfl,S7.of b1,rfl,m,b,_,_,rfl,rfl,ZK,b0,?_
  ·rw[aaa,aaa,sizeLine_eq];lia
  exists (_,_,rfl),bK s6 G _,λc o n1 n2 e=>by rw[aH n2];exact c0 c o n1 n2 e,j++[v],by rw[aH ZJ];exact a9,?_,?_
  ·rw[au,ZL,aal,aia,aal];simp
  ·rw[ZL,aal];refine a5.to λc I e=>?_;rw[aH λz=>?_]
   ·exact e
   ·rw[z,ZK]at e;cases e
  ·rw[ZL,aal,aia,aaf];simp only[aaA,ahc,afZ,List.flatten_nil,agJ];lia
 ·rintro σ D ⟨⟨k4,k5,rfl⟩,sm,R,j,ya,yb,hts,XN⟩;have O:(Tq h (rks g d)).take (ls.map V.ref).length=Tq h (rks g d):=aai (by rw[aaa,mL];lia);rw[O]at yb hts;have yk:=R _ _ b6 b5 B;refine(_,rfl,p,_,rfl,.inl (sm.seq hS),_,rfl,y,_,rfl,.inl (My.of yk,λk hk=>?_));have s1:=az hk (.tup (g.map V.int));refine(_,rfl,f,_,rfl,.inl (My.of (s1 _ _ ya),λc hc=>?_));have s2:=az hc (.tup (j.map V.ref));have Vf:(d.map V.int).length=d.length:=aaa ..;rw[Vf];refine((by show 3<=sizeLine;decide),λt ht=>(_,rfl,(by show 2<=sizeLine;decide),λr c3=>?_));have s3:=az ht (.tup [.int (d.length:Int),.ref k,.ref c]);have s4:=az c3 (.tup [.ref t,.ref m]);have J:=s1.trans (s2.trans (s3.trans s4));exact q r t m k c g h j _ G (sm.trans J) (au,s4 _ _ au,s4 _ _ (s3 _ _ (s2 _ _ au)),s4 _ _ (s3 _ _ au),hts.to λb I e=>J _ _ e,J _ _ yb,hK,hz,c9)
def T3(w:Str):Prop:=w.length<=40 /\ ∀c∈w.cps.toList,97<=c/\c<=122
abbrev letters:Str := "abcdefghijklmnopqrstuvwxyz"
theorem Aq:∀k,k<26->(97+k)∈letters.cps.toList/\Builtin.Str.occurrences letters ⟨#[97+k]⟩ 0 letters.length 1=[k]:=by
 decide +kernel
theorem yu{c:Nat}(h:97<=c/\c<=122):c∈letters.cps.toList/\Builtin.Str.occurrences letters ⟨#[c]⟩ 0 letters.length 1=[c - 97]:=by
 have:=Aq (c - 97) (by lia);rw[show 97+(c - 97)=c by lia]at this;exact this
theorem Ei(d:N.Nodup):(met (λi=>N.getD i ⟨#[]⟩) N.length).length=N.length:=by
 have m:=uq (λi=>N.getD i ⟨#[]⟩) N.length;have k:N.length<=(met (λi=>N.getD i ⟨#[]⟩) N.length).length:=by
  have:∀{l U:List Str},l.Nodup->(∀z∈l,z∈U)->l.length<=U.length:=by
   intro l
   induction l with
   | nil=>intro U _ _;exact aaK _
   | cons a l j =>
    intro U d h;have g:=h a aa5;have b:=aga.mp d;have q:=j (U:=U.erase a) b.2 λz c=>(List.mem_erase_of_ne λe:z=a=>b.1 (e ▸ c)).mpr (h z (aaL _ c));have e:=List.length_erase_of_mem g;have p:=List.length_pos_of_mem g;rw[aaY];lia
  refine this d λz c=>?_;obtain⟨i,f,e⟩:=afY c;refine(tZ _ _ _).mpr (i,f,?_);rw[af6,aad f];exact e
 lia
theorem Pb(b:List Str)(z:Str):z∈met (λi=>b.getD i ⟨#[]⟩) b.length ↔ z∈b:=by
 rw[tZ];constructor
 ·rintro⟨i,c,rfl⟩;show b.getD i ⟨#[]⟩∈b;rw[af6,aad c];exact abX c
 ·intro d;obtain⟨i,c,e⟩:=afY d;exists i,c;show b.getD i ⟨#[]⟩=z;rw[af6,aad c];exact e
inductive uW(K:PySem.W.Frag)(vs:List V)(H:Hp)(Q:VK)(_e1:XK):Prop
 | mk (p:Addr) (ws:List Str) (_:vs=[.ref p]) (_:My K H p (ws.map V.str)) (_:(∀w∈ws,T3 w)) (_:ws.Nodup) (_:ws.length<=4000) (_:∀H',aO H H'->Q .non H')
theorem vV(T:Tx K mg a):aV P w K mg base S6 1 a.ack a.abL ["words"] (uW K):=by
 refine T.acy.F.S9 iD λN A z s H O Q E R h=>?_;obtain⟨p,n,rfl,m,L,G,S,q⟩:=h;refine(_,(aj (bI PassesOwn.never rfl (bO (pv 0)) (aR 1 iD.nd) (aj (aX (aG jf (aK bw rfl T.Th Tw.bh (aa (pv 1) ak)) (bG (v:=.int 40) rfl T.adY (_,rfl))) (aq bW) aL)
  (aq (bI PassesOwn.never rfl (K6 (pv 1)) (aR 2 iD.nd) (aq (aX (aG zy (pv 2) (bG (v:=.str "abcdefghijklmnopqrstuvwxyz") rfl T.Zn (_,rfl)) (by with_unfolding_all rfl)) (aq bW) aL))))))
  (aq (aX (aG jH (aK tY rfl T.Th Tw.bh (aa (cI (sO rfl) rfl T.Zj Tw.Dv (aa (pv 0) ak)) ak)) (aK aN rfl T.Th Tw.bh (aa (pv 0) ak))) (aq bW) aL))),?_)
 exists _,rfl,p,rfl,(_,m);refine b7 (xs:=n.map V.str) (λi b f=>(∃r d,b=[some (.ref p),r,d])/\f=H) ((none,none,rfl),rfl) ?_ ?_ ?_
 ·rintro i b f _ ⟨_,rfl⟩;exact m
 ·rintro i x b f C ⟨⟨r,d,rfl⟩,rfl⟩;rw[aah]at C;obtain⟨e,M,rfl⟩:=abu.mp C;obtain⟨U,k⟩:=L e (aag M);refine(_,rfl,e,rfl,by rw[sizeLine_eq];lia,_,_,rfl,rfl,_,rfl,bC (λc=>?_) λ_=>?_)
  ·have c:(40:Int)<(e.length:Int):=of_decide_eq_true c;lia
  exists _,rfl,e,rfl;refine Gz (x:=e) (λi b t=>(∃d,b=[some (.ref p),some (.str e),d])/\t=f) ((_,rfl),rfl) ?_ ?_
  ·rintro j c b t J ⟨⟨d,rfl⟩,rfl⟩;have y:=k c (by
    have:=Array.mem_of_getElem? J;simpa using this)
   exists _,rfl,_,_,rfl,rfl,_,rfl;rw[PySem.StrLaws.found_one,decide_eq_true (yu y).1];exact dN ((_,rfl),rfl)
  ·rintro b t ⟨⟨d,rfl⟩,rfl⟩;exact((_,_,rfl),rfl)
 ·rintro b f ⟨⟨r,d,rfl⟩,rfl⟩;have D:=Ei G;refine(_,rfl,p,n,rfl,m,(by rw[D];show _+1<4096;lia),λl B o g u I=>?_);refine(l,B,rfl,by rw[au,I],_,rfl,p,_,rfl,.inl (az g _ |>.seq m),_,_,rfl,rfl,_,rfl,bC (λc=>?_) λ_=>q _ (az g _));have c:(B.length:Int)<((n.map V.str).length:Int):=of_decide_eq_true c;rw[u,D,aaa]at c;lia
theorem Ja{lo:Int}{n:Nat}{c:L2.St}{tt:TT}(f:Nat->V)(l:n<sizeLine)
  (g:∀(z:Int) (H':Hp) (Q:Bool->Hp->Prop),Q true H'->tt (some (.int z)::c) H' Q)(k:∀(i:Nat) (H':Hp) (Q:VK),i<n->aO H H'->Q (f i) H'->ta (some (.int (lo+i))::c) H' Q)
  (q:∀D,H D=none->B D (upd H D (.lst ((adU n).map f)))):j7 (Vi lo n) c tt ta B H:=by
 intro D h;exists λi m d j=>m=n - i/\i<=n/\d=(adU i).map f/\j=upd H D (.lst d),(_,rfl,aaK _,rfl,rfl);rintro i m d j ⟨rfl,o,rfl,rfl⟩;by_cases b:i<n
 ·refine .inr (b,λv p y=>?_);obtain⟨rfl,rfl⟩:=y;refine g _ _ _ ?_;rw[if_pos rfl];refine k i _ _ b (az h _) (au,?_,n - (i+1),by lia,rfl,b,?_,?_)
  ·rw[aaa,afT];lia
  ·rw[af1,aal];rfl
  ·rw[oH]
 ·have e:i=n:=by lia
  subst e;exact .inl (aac _,q D h)
theorem qp{K:PySem.W.Frag}{a:Addr}{xs:List V}{c:L2.St}{tt:TT}(g:V->V)(n:My K H a xs)(p:xs.length<sizeLine)
  (k:∀(x:V) (H':Hp) (Q:Bool->Hp->Prop),Q true H'->tt (some x::c) H' Q)(o:∀(x:V) (H':Hp) (Q:VK),x∈xs->aO H H'->Q (g x) H'->ta (some x::c) H' Q)
  (q:∀D,H D=none->B D (upd H D (.lst (xs.map g)))):j7 (Vx K a) c tt ta B H:=by
 intro D h;exists λi m d l=>m=xs.length - i/\i<=xs.length/\d=(xs.take i).map g/\l=upd H D (.lst d),(_,rfl,aaK _,rfl,rfl);rintro i m d l ⟨rfl,r,rfl,rfl⟩;have j:=(az h (.lst ((xs.take i).map g))).seq n;by_cases b:i<xs.length
 ·have f:=aad b;refine .inr ((_,_,j,f),λv s y=>?_);obtain⟨rfl,y⟩:=y;have e:=y _ j;rw[f]at e;cases e;refine k _ _ _ ?_;rw[if_pos rfl];refine o _ _ _ (abX b) (az h _) (au,?_,xs.length - (i+1),by lia,rfl,b,?_,?_)
  ·rw[aaa,aaI];lia
  ·rw[ahb,f,aal];rfl
  ·rw[oH]
 ·have e:i=xs.length:=by lia
  subst e;refine .inl ((_,j,aac _),?_);have:=q D h;rw[aai (aac _)];exact this
def much:List Str->Nat
 | []=>0
 | w::b=>w.length+much b
theorem xU(b:List Str):∀i,much (b.take i)<=much b:=by
 induction b with
 | nil=>intro i;rw[ahO];exact aac _
 | cons w b c =>
  intro i;cases i with
  | zero=>exact aaK _
  | succ i =>
   have:=c i;show w.length+much (b.take i)<=w.length+much b;lia
theorem xm(b:List Str)(w:Str):much (b++[w])=much b+w.length:=by
 induction b with
 | nil=>show w.length+0=0+w.length;lia
 | cons v b c =>
  show v.length+much (b++[w])=v.length+much b+w.length;lia
def cZ(w:Str):List Str:=(adU w.length).map λi=>beg w (i+1)
theorem CT(f:List Str)(t:Str):(t=⟨#[]⟩ \/ ∃w∈f,t∈cZ w) ↔ (t=⟨#[]⟩ \/ ∃w∈f,∃k:Nat,t=beg w k):=by
 constructor
 ·rintro(h|⟨b,e,ht⟩)
  ·exact .inl h
  ·unfold cZ at ht;obtain⟨j,_,rfl⟩:=abl.mp ht;exact .inr (b,e,j+1,rfl)
 ·rintro(h|⟨b,e,k,rfl⟩)
  ·exact .inl h
  ·rcases acz (min k b.length)with c|c
   ·refine .inl (ie ?_);rw[cA];rcases acz k with d|d
    ·rw[d];rfl
    ·have:b.cps.toList=[]:=ahP.mp (by rw[aae];show b.length=0;lia);rw[this];exact ahO
   ·refine .inr (b,e,?_);unfold cZ;refine abl.mpr (min k b.length - 1,agi.mpr (by lia),?_);rw[show min k b.length - 1+1=min k b.length by lia];refine ie ?_;rw[cA,cA];rcases ah0 k b.length with d|d
    ·rw[aev d]
    ·rw[agn d,aai (by rw[aae];exact aac _),aai (by rw[aae];exact d)]
theorem qL:∀b:List Str,(b.flatMap cZ).length=much b
 | []=>rfl
 | w::b=>by
  rw[List.flatMap_cons,aaf,qL b];show ((adU w.length).map _).length+much b=w.length+much b;rw[aaa,afT]
inductive rD(K:PySem.W.Frag)(vs:List V)(H:Hp)(Q:VK)(_e1:XK):Prop
 | mk (p:Addr) (ws:List Str) (_:vs=[.ref p]) (_:My K H p (ws.map V.str)) (_:(∀w∈ws,w.length<=40)) (_:much ws<=4000) (_:∀(r:Addr) (ts:List Str) (H':Hp),H r=none->aO H H'->H' r=some (.lst (ts.map V.str))->m7 ws ts->ts.length<=much ws+1->Q (.ref r) H')
theorem qG(T:Tx K mg a):aV P w K mg base S6 1 a.abd a.aaT ["words"] (rD K):=by
 refine T.abi.F.S9 fM λa1 A z s H vs Q E hr h=>?_;obtain⟨p,c,rfl,J,Z,hm,q⟩:=h;refine(_,(aj (aA 1 fM.nd (cX (aa nC ak)))
  (aj (bI PassesOwn.never rfl (bO (pv 0)) (mK (i:=2) fM.nd rfl (ahs rfl)) (aq (bu (gR PySem.F.plainAttrs_list PySem.F.slot_list_extend PySem.F.type_list_extend qz (pv 1) (aa (oR rfl (cH.one (j:=2) rfl (agG rfl) rfl rfl (agG rfl)) (Jk rfl T.Wb (aa ao (aa (aB bc (aK bw rfl T.Th Tw.bh (aa (pv 2) ak)) ao) ak))) (λ_ _ _ _=>fU) (λ_ _ _ _=>(cC kO (pv 1) dB (cO (pv 0))))) ak)))))
  (aq (aD (aK (pQ rfl) rfl T.Zk Tw.qP (aa (cI (sO rfl) rfl T.Zj Tw.Dv (aa (pv 1) ak)) ak)))))),?_)
 refine((by show 1<=sizeLine;decide),λr l=>?_)
 have C:=az l (.lst [.str ""])
 exists _,rfl,p,rfl,(_,C.seq J);refine b7 (xs:=c.map V.str) (λi o g=>(∃y,o=[some (.ref p),some (.ref r),y])/\aO H g/\g r=some (.lst (((⟨#[]⟩:Str)::(c.take i).flatMap cZ).map V.str))) ((none,rfl),C,au) ?_ ?_ ?_
 ·rintro i o g _ ⟨_,e,_⟩;exact e.seq J
 ·rintro i x o g I ⟨⟨y,rfl⟩,e,f⟩;rw[aah]at I;obtain⟨b,L,rfl⟩:=abu.mp I;have hw:=Z b (aag L);have hts:((⟨#[]⟩:Str)::(c.take i).flatMap cZ).length=1+much (c.take i):=by
   rw[aaY,qL];lia
  have a0:=xU c i;exists _,rfl,.inl (rfl,_,My.of f),_,rfl,b,rfl,by rw[sizeLine_eq];lia,_,_,rfl,rfl,1,_,rfl,(by decide,by decide,by lia,by lia);have Y:((b.length:Int)+1 - 1).toNat=b.length:=by lia
  show j7 (Vi 1 ((b.length:Int)+1 - 1).toNat) _ _ _ _ _;rw[Y];refine Ja (λi=>.str (beg b (i+1))) (by rw[sizeLine_eq];lia) (λ_ _ _ q=>q) (λj H2 Q hj T4 R=>(_,rfl,_,rfl,_,rfl,b,rfl,by rw[sizeLine_eq];lia,?_)) λD X=>?_
  ·rw[show (1:Int)+(j:Int)=((j+1:Nat):Int) by lia,um];exact R
  have B:=az X (.lst ((adU b.length).map λi=>V.str (beg b (i+1))));have n:((adU b.length).map λi=>V.str (beg b (i+1)))=(cZ b).map V.str:=by
   unfold cZ;rw[af0];rfl
  have U0:(cZ b).length=b.length:=by
   unfold cZ;rw[aaa,afT]
  refine(r,D,_,_,rfl,rfl,B _ _ f,au,?_,((_,rfl),bK (e.trans B) l _,?_))
  ·rw[aaa,hts,n,aaa,U0,sizeLine_eq];lia
  ·rw[au,n,ahb,L,List.flatMap_append,<-aal];simp
 ·rintro o g ⟨⟨y,rfl⟩,e,f⟩;rw[aaa,aai (aac _)]at f;have hts:((⟨#[]⟩:Str)::c.flatMap cZ).length=1+much c:=by
   rw[aaY,qL];lia
  have Zu:=uq (λi=>((⟨#[]⟩:Str)::c.flatMap cZ).getD i ⟨#[]⟩) ((⟨#[]⟩:Str)::c.flatMap cZ).length;refine(_,rfl,r,_,rfl,My.of f,?_,λU W G m d ZG=>(U,W,rfl,by rw[au,ZG],λO u k v M=>?_))
  ·show _+1<4096;lia
  have S:u.Nodup:=v.nodup_iff.mpr (by rw[d];exact mV _ _);have N:=(az m G).trans (az k (.lst (u.map V.str)));refine q O u _ (e.free (az m G |>.free k)) (e.trans N) au (uL M S,λt=>?_) ?_
  ·rw[v.mem_iff,d,Pb,aaH,List.mem_flatMap];exact CT c t
  ·rw[v.length_eq,d];lia
theorem xN(xs:List V)(i:Nat):fB xs (some (i:Int)) none=xs.drop i:=by
 unfold fB;rw[HT.lu,HT.jT];rcases ah0 i xs.length with c|c
 ·rw[aev c,aai (by rw[abU];exact aac _)]
 ·rw[agn c,ae5 (aac _),ae5 c,ahO]
def lenV:V->V
 | .str t=>.int (t.length:Int)
 | v=>v
def fu(t:Str):Int:=((t.cps.toList.getLastD 97:Nat):Int) - 97
def Gh:V->V
 | .str t=>.int (fu t)
 | v=>v
def oK(b:List Str)(t:Str):Int:=if t∈b then 1 else 0
def Oh(b:List Str):V->V
 | .str t=>.int (oK b t)
 | v=>v
theorem m7.low(h:m7 N ps)(f:∀w∈N,T3 w){t:Str}(ht:t∈ps):T3 t:=by
 rcases(h.mem t).mp ht with e|⟨w,d,k,e⟩
 ·rw[e];exact(aaK _,λc b=>by cases b)
 ·obtain⟨i,g⟩:=f w d;refine(by rw[e,uf];lia,λc b=>g c ?_);rw[e,cA]at b;exact agt b
inductive z9(K:PySem.W.Frag)(vs:List V)(H:Hp)(Q:VK)(_e1:XK):Prop
 | mk (p:Addr) (ws:List Str) (_:vs=[.ref p]) (_:My K H p (ws.map V.str)) (_:(∀w∈ws,T3 w)) (_:ws.Nodup) (_:ws.length<=3000) (_:much ws<=3000) (_:∀(r d l e:Addr) (ts:List Str) (H':Hp),aO H H'->H' r=some (.tup [.ref d,.ref l,.ref e])->H' d=some (.lst ((ts.map λt=>(t.length:Int)).map V.int))->H' l=some (.lst (((ts.drop 1).map fu).map V.int))->H' e=some (.lst ((ts.map (oK ws)).map V.int))->m7 ws ts->ts.length<=much ws+1->Q (.ref r) H')
theorem BJ(T:Tx K mg a):aV P w K mg base S6 2 a.aeh a.adB ["words"] (z9 K):=by
 refine T.aeq.F.S9 dm λb5 A b2 s H vs Q E U h=>?_;obtain⟨p,m,rfl,X,W,nd,hl,hm,q⟩:=h;refine(_,(aj (bu (aF T.acy (vV T) U (aa (pv 0) ak)))
  (aj (aA 1 dm.nd (aF T.abi (qG T) U (aa (pv 0) ak)))
  (aj (j0 (i:=2) dm.nd rfl rfl rfl cH.zero (bO (pv 1)) (λ_ _ _ _=>fU) (λ_ _ _ _=>(aK bw rfl T.Th Tw.bh (aa (pv 0) ak))))
  (aj (j0 (i:=3) dm.nd rfl rfl rfl cH.zero (bO (cC pP (pv 1) (cO ao) dB)) (λ_ _ _ _=>fU) (λ_ _ _ _=>(show PE _ _ (tBM K "str" G6 _ _)from (gR PySem.F.plainAttrs_str PySem.F.slot_str_index PySem.F.type_str_index Hu (bG (v:=.str "abcdefghijklmnopqrstuvwxyz") rfl T.Zn (_,rfl)) (aa (aW Ga (pv 0) (lC jc ao)) ak)))))
  (aj (q9 (i:=4) dm.nd rfl (ahs rfl) Cp)
  (aj (bI PassesOwn.never rfl (bO (pv 0)) (aR 5 dm.nd) (aq (zY (agd (agD (by decide:1<=64) _) U.units) (pv 4) (pv 5) nq rfl)))
  (aj (j0 (i:=6) dm.nd rfl rfl rfl (cH.one (j:=4) rfl (agG rfl) rfl rfl (agG rfl)) (bO (pv 1)) (λ_ _ _ _=>fU) (λ_ _ _ _=>(Le (gB (Qa (agd (agD (by decide:1<=64) _) U.units) (pv 0) (pv 1))) ao ao)))
  (aq (aD (iM (aa (pv 2) (aa (pv 3) (aa (pv 6) ak))))))))))))),?_)
 refine(_,rfl,p,m,rfl,X,W,nd,by lia,λH1 Tg=>?_);refine(_,rfl,p,m,rfl,Tg.seq X,λw hw=>(W w hw).1,by lia,λR b Y b4 T4 o I a1=>?_);have s2:=Tg.trans T4;have Ye:(b.map V.str).length=b.length:=aaa ..;exists _,rfl,R,rfl,(_,My.of o);refine qp lenV (My.of o) (by rw[sizeLine_eq,Ye];lia) (λ_ _ _ q=>q) (λx y Q D C n=>?_) λd hd=>?_
 ·obtain⟨t,ht,rfl⟩:=abl.mp D;have:=(I.low W ht).1;exact(_,rfl,t,rfl,by rw[sizeLine_eq];lia,n)
 have t3:=az hd (.lst ((b.map V.str).map lenV));have G:upd Y d (.lst ((b.map V.str).map lenV)) d=some (.lst ((b.map λt=>(t.length:Int)).map V.int)):=by
  rw[au,af0,af0];rfl
 replace o:=t3 _ _ o
 have s3:=s2.trans t3;generalize upd Y d (.lst ((b.map V.str).map lenV))=H3 at *;refine(_,rfl,_,rfl,R,_,rfl,My.of o,λc hc=>(c,rfl,(_,My.of au),?_));have t4:=az hc (.lst (fB (b.map V.str) (some 1) none));have xc:upd H3 c (.lst (fB (b.map V.str) (some 1) none)) c=some (.lst ((b.drop 1).map V.str)):=by
  rw[au,show (1:Int)=((1:Nat):Int)from rfl,xN,ahK]
 replace o:=t4 _ _ o
 replace G:=t4 _ _ G
 have s4:=s3.trans t4;rw[show fB (b.map V.str) (some 1) none=(b.drop 1).map V.str by rw[show (1:Int)=((1:Nat):Int)from rfl,xN,ahK]]at *;generalize upd H3 c (.lst ((b.drop 1).map V.str))=H4 at *;refine qp Gh (My.of xc) (by rw[sizeLine_eq,aaa,abU];lia) (λ_ _ _ q=>q) (λx y Q D C n=>?_) λl a6=>?_
 ·obtain⟨t,ht,rfl⟩:=abl.mp D;have a0:=agg ht;obtain⟨b3,M⟩:=I.low W a0;have a3:t.cps.toList≠[]:=λe=>by
   obtain⟨i,hi,ei⟩:=afY ht;rw[agz]at ei;have a4:1+i<b.length:=by
    rw[abU]at hi;lia
   have h0:=I.zero;obtain⟨b0,b1⟩:=aab.mp h0;have:=abR.mp I.up 0 (1+i) b0 a4 (by lia);rw[b1,ei]at this;unfold Uu at this;rw[e]at this;exact absurd this (ah1 _)
  obtain⟨rr,u,Wx⟩:∃rr u,t.cps.toList=rr++[u]:=(_,_,(agI a3).symm);have a5:=M u (by rw[Wx];exact aav _ (af3 _));have a9:Tz t.cps.toList (-1)=some u:=by
   rw[Wx];exact lA rr u
  have a8:=(yu a5).2;have el:fu t=((u - 97:Nat):Int):=by
   unfold fu;rw[Wx,aho];lia
  exists rfl,_,rfl,_,rfl,t,-1,u,rfl,rfl,by rw[sizeLine_eq];lia,a9,letters,⟨#[u]⟩,u - 97,[],rfl,rfl,a8;rw[<-el];exact n
 have t5:=az a6 (.lst (((b.drop 1).map V.str).map Gh));have xl:upd H4 l (.lst (((b.drop 1).map V.str).map Gh)) l=some (.lst (((b.drop 1).map fu).map V.int)):=by
  rw[au,af0,af0];rfl
 replace o:=t5 _ _ o
 replace G:=t5 _ _ G
 have s5:=s4.trans t5;generalize upd H4 l (.lst (((b.drop 1).map V.str).map Gh))=H5 at *;intro O L;have t6:=az L (.dK []);have s6:=s5.trans t6;exists _,rfl,p,rfl,(_,s6.seq X);refine b7 (xs:=m.map V.str) (λi N y=>(∃k5,N=[some (.ref p),some (.ref R),some (.ref d),some (.ref l),some (.ref O),k5,none])/\aO H5 y /\ ∃f:List (Key×V),y O=some (.dK f)/\f.length<=i /\ ∀t:Str,(fO f (Sum.inr t)).isSome=decide (t∈m.take i)) ((none,rfl),t6,[],au,aac _,λt=>rfl) ?_ ?_ ?_
 ·rintro i N y _ ⟨_,C,_⟩;exact(s5.trans C).seq X
 ·rintro i x N y D ⟨⟨k5,rfl⟩,C,f,Z,a7,B⟩;rw[aah]at D;obtain⟨wd,Uz,rfl⟩:=abu.mp D;have hi:=(aab.mp Uz).1;exists _,rfl,_,rfl,O,_,rfl,.inl (f,Sum.inr wd,Z,rfl,by rw[sizeLine_eq];lia,rfl);refine((_,rfl),bK C L _,_,au,?_,λt=>?_)
  ·have:=CV f (Sum.inr wd) (.bl true);lia
  ·rw[Am,ahb,Uz];by_cases e:t=wd
   ·subst e;rw[if_pos rfl];exact(decide_eq_true (aav _ (af3 _))).symm
   ·rw[if_neg (λz=>e (Sum.inr.inj z)),B t];refine decide_eq_decide.mpr (λz=>afU _ z,λz=>?_);rcases abn.mp z with z|z
    ·exact z
    ·exact absurd (aaj.mp z) e
 ·rintro N y ⟨⟨k5,rfl⟩,C,f,Z,a7,B⟩;rw[aaa,aai (aac _)]at B;have J:=C _ _ o;exists _,rfl,R,rfl,(_,My.of J);refine qp (Oh m) (My.of J) (by rw[sizeLine_eq,Ye];lia) (λ_ _ _ q=>q) (λx Y Q D T4 n=>?_) λe he=>?_
  ·obtain⟨t,ht,rfl⟩:=abl.mp D;have g:=yJ.k (k:=Sum.inr t) (T4 _ _ Z);exists _,rfl,_,rfl,O,_,rfl,g,_,rfl;rw[B t];have n:Q (.int (oK m t)) Y:=n;unfold oK at n;by_cases c:t∈m
   ·rw[decide_eq_true c];rw[if_pos c]at n;exact jr n
   ·rw[decide_eq_false c];rw[if_neg c]at n;exact dN n
  have t7:=az he (.lst ((b.map V.str).map (Oh m)));have xe:upd y e (.lst ((b.map V.str).map (Oh m))) e=some (.lst ((b.map (oK m)).map V.int)):=by
   rw[au,af0,af0];rfl
  have s7:=C.trans t7;generalize upd y e (.lst ((b.map V.str).map (Oh m)))=H7 at *;refine(_,rfl,_,rfl,_,rfl,(by show 3<=sizeLine;decide),λr a2=>?_);have S:=az a2 (.tup [.ref d,.ref l,.ref e]);exact q r d l e b _ ((s5.trans s7).trans S) au (S _ _ (s7 _ _ G)) (S _ _ (s7 _ _ xl)) (S _ _ xe) I a1
structure Store(H:Hp)(r t bl:Addr)(ws ts:List Str):Prop where
 r:H r=some (.tup [.ref t,.ref bl])
 ex:∃(t1 t2 t3 ah nd b1 r2 b2 k2 c2 Wd b3:Addr) (lows:List Int) (S:Nat) (xs:List V) (ms:List Int) (h:Nat) (ls:List Addr),
  H t=some (.tup [.ref t1,.ref t2,.ref t3])/\KB H t1 ah nd b1 (brk (ts.map λt=>(t.length:Int)) 0) lows S xs/\Kept H r2 t2 b2 k2 c2 ((ts.drop 1).map fu) ms h ls/\Tab H t3 Wd (ts.map (oK ws)) [] /\
  H bl=some (.lst (((bD (brk (ts.map λt=>(t.length:Int)) 0))++((Tq h (rks ms ((ts.drop 1).map fu))).map bD).flatten++bD (ts.map (oK ws))).map V.int))
 begs:m7 ws ts
theorem HF{t:Str}(h:T3 t):0<=fu t/\fu t<=25:=by
 unfold fu;cases e:t.cps.toList with
 | nil=>decide
 | cons a r =>
  have c:t.cps.toList≠[]:=λz=>by rw[e]at z;cases z
  obtain⟨d,b,f⟩:∃d b,t.cps.toList=d++[b]:=(_,_,(agI c).symm);have g:=h.2 b (by rw[f];exact aav _ (af3 _));rw[<-e,f,aho];lia
theorem Hx(c d:List Str):aZ (d.map (oK c)):=λb e=>by
 obtain⟨t,_,rfl⟩:=abl.mp e;unfold oK;split
 ·exact .inr rfl
 ·exact .inl rfl
theorem xx{n:Nat}:∀{L:List (List Int)},(∀x∈L,x.length=n)->((L.map bD).flatten).length=L.length*many n
 | [],_=>by simp
 | x::L,h=>by
  rw[aaA,afZ,aaf,xx λy b=>h y (aaL _ b),bA,h x aa5,aaY,agL];lia
theorem Kept.size{r t b k c:Addr}(x:Kept H r t b k c d M n j)(i:d.length<=4000):((((Tq n (rks M d)).map bD).flatten).map V.int).length<=1600:=by
 rw[aaa,xx (n:=d.length) λl g=>by
  rw[(Tw.uv _ _ _ g).2];unfold rks;exact aaa ..,mL]
 have e:=x.h12;have f:many d.length<=126:=by
  unfold many;lia
 exact adh (aiI e f) (by decide)
inductive wB(K:PySem.W.Frag)(vs:List V)(H:Hp)(Q:VK)(_e1:XK):Prop
 | mk (p:Addr) (ws:List Str) (_:vs=[.ref p]) (_:My K H p (ws.map V.str)) (_:(∀w∈ws,T3 w)) (_:ws.Nodup) (_:ws.length<=2000) (_:much ws<=2000) (_:∀r t bl ts H',aO H H'->Store H' r t bl ws ts->ts.length<=much ws+1->Q (.ref r) H')
theorem wH(T:Tx K mg a):aV P w K mg base S6 8 a.acY a.acl ["words"] (wB K):=by
 refine T.ade.F.S9 dM λb6 A a6 s H vs Q E U h=>?_;obtain⟨p,N,rfl,hS,hW,nd,hl,hm,q⟩:=h;refine(_,(aj (aA 1 dM.nd (aF T.aeq (BJ T) U (aa (pv 0) ak)))
  (aj (aA 2 dM.nd (aF T.adP (zr T) U (aa (aW aU (pv 1) ao) ak)))
  (aj (aA 3 dM.nd (aF T.ac8 (wF T) U (aa (aW aU (pv 1) ao) ak)))
  (aj (aA 4 dM.nd (aF T.XX (lq T) U (aa (aW aU (pv 1) ao) ak)))
  (aq (aD (iM (aa (iM (aa (aW aU (pv 2) ao) (aa (aW aU (pv 3) ao) (aa (aW aU (pv 4) ao) ak)))) (aa (aB mC (aB mC (aW aU (pv 2) ao) (aW aU (pv 3) ao)) (aW aU (pv 4) ao)) ak))))))))),?_)
 refine(_,rfl,p,N,rfl,hS,hW,nd,by lia,by lia,λpr d l e f H1 Tg X xd xl xe hB a2=>?_);have Xc:=hB.good;have I:(f.map λt=>(t.length:Int)).length=f.length:=aaa ..;refine(_,rfl,pr,_,_,_,rfl,rfl,S7.of X,rfl,d,_,rfl,xd,by rw[I];lia,Xc,λr1 t1 ah G b1 n S M H2 b5 W a0 x=>?_);have Yc:((f.drop 1).map fu).length=f.length - 1:=by rw[aaa,abU]
 have L:ZF ((f.drop 1).map fu):=λz hz=>by
  obtain⟨t,ht,rfl⟩:=abl.mp hz;have:=HF (hB.low hW (agg ht));lia
 have VF:=m6 Xc;rw[I]at VF;refine(_,rfl,pr,_,_,_,rfl,rfl,S7.of (W _ _ X),rfl,l,(f.drop 1).map fu,rfl,My.of (W _ _ xl),by lia,L,λO Z b2 k2 c2 R h ls H3 b4 D j=>?_);have s3:=W.trans D;refine(_,rfl,pr,_,_,_,rfl,rfl,S7.of (s3 _ _ X),rfl,e,f.map (oK N),rfl,My.of (s3 _ _ xe),by rw[aaa];lia,Hx _ _,λr3 b3 t3 Wd H4 b0 v B J Zv=>?_);have y:=D.trans v;have u:KB H4 t1 ah G b1 (brk (f.map λt=>(t.length:Int)) 0) n S M:=(x.tab.same y,y _ _ x.Vu,y _ _ x.Zt,x.low,x.sz,x.heap);have m:=y _ _ a0;have g:Kept H4 O Z b2 k2 c2 ((f.drop 1).map fu) R h ls:=(v _ _ j.r,v _ _ j.t,v _ _ j.k,v _ _ j.c,j.ls.to λb M e=>v _ _ e,v _ _ j.b,j.kd,j.sz,j.h12);refine(_,rfl,r1,_,_,_,rfl,rfl,S7.of m,rfl,_,rfl,O,_,_,_,rfl,rfl,S7.of g.r,rfl,_,rfl,r3,_,_,_,rfl,rfl,S7.of B,rfl,(by show 3<=sizeLine;decide),λtt a1=>?_);have o:=az a1 (.tup [.ref t1,.ref Z,.ref t3]);have a7:=j.size (by rw[Yc];lia);have a9:((bD (brk (f.map λt=>(t.length:Int)) 0)).map V.int).length<=200:=by
  rw[aaa,bA,VF];unfold many;lia
 have a8:((bD (f.map (oK N))).map V.int).length<=200:=by
  rw[aaa,bA,aaa];unfold many;lia
 refine(_,rfl,r1,_,_,_,rfl,rfl,S7.of (o _ _ m),rfl,_,rfl,O,_,_,_,rfl,rfl,S7.of (o _ _ g.r),rfl,b1,b2,_,_,rfl,rfl,o _ _ u.Zt,o _ _ g.b,by rw[sizeLine_eq];lia,λc1 a5=>?_);have Y:=az a5 (.lst ((bD (brk (f.map λt=>(t.length:Int)) 0)).map V.int++(((Tq h (rks R ((f.drop 1).map fu))).map bD).flatten).map V.int));refine(_,rfl,r3,_,_,_,rfl,rfl,S7.of (Y _ _ (o _ _ B)),rfl,c1,b3,_,_,rfl,rfl,au,Y _ _ (o _ _ Zv),by rw[aaf,sizeLine_eq];lia,λc3 a4=>?_);have u3:=az a4 (.lst ((bD (brk (f.map λt=>(t.length:Int)) 0)).map V.int++(((Tq h (rks R ((f.drop 1).map fu))).map bD).flatten).map V.int++(bD (f.map (oK N))).map V.int));refine((by show 2<=sizeLine;decide),λrr a3=>?_);have u4:=az a3 (.tup [.ref tt,.ref c3]);have C:=Y.trans (u3.trans u4);have i:=o.trans C;refine q rr tt c3 f _ (((Tg.trans W).trans y).trans i) (au,(t1,Z,t3,ah,G,b1,O,b2,k2,c2,Wd,b3,n,S,M,R,h,ls,C _ _ au,(u.tab.same i,i _ _ u.Vu,i _ _ u.Zt,u.low,u.sz,u.heap),(i _ _ g.r,i _ _ g.t,i _ _ g.k,i _ _ g.c,g.ls.to λb M e=>i _ _ e,i _ _ g.b,g.kd,g.sz,g.h12),J.same i,?_),hB) a2;rw[u4 _ _ au,aal,aal]
abbrev Us(n k:Nat)(d c b:List Int):Prop:=bR n k c b
theorem Us.none{n k:Nat}(U b:List Int):Us n k U b b:=bR.none b
theorem Us.le{n j k:Nat}{U V a b:List Int}(h:Us n j U a b)(c:j<=k)(_:∀x∈U,x∈V):Us n k V a b:=bR.le h c
theorem Us.len{n k:Nat}{U a b:List Int}(h:Us n k U a b):b.length<=a.length+k:=bR.len h
theorem Us.trans{n j k:Nat}{U V a b c:List Int}(h:Us n j U a b)(h':Us n k V b c):Us n (j+k) (U++V) a c:=bR.trans h h'
structure SG where
 t:Addr
 k:Addr
 c:Addr
 bl:Addr
 sn:Addr
 g:Addr
 ls:List Addr
 ns:List Int
 ms:List Int
 h:Nat
 off:Nat
 al:List V
def SG.lv(p:SG):List (List Int):=Tq p.h (rks p.ms p.ns)
abbrev SG.all(p:SG):List V:=p.al
theorem SG.lv_len(p:SG):p.lv.length=p.h:=mL _ _
theorem SG.lv_mem(p:SG){bs:List Int}(h:bs∈p.lv):aZ bs/\bs.length=p.ns.length:=by
 obtain⟨c,b⟩:=Tw.uv _ _ _ h;refine(c,b.trans ?_);unfold rks;exact aaa ..
theorem Gp{m:Nat}:∀{L:List (List Int)} {i:Nat}{bs:List Int},(∀x∈L,(bD x).length=m)->L[i]?=some bs->(((L.map bD).flatten).drop (i*m)).take m=bD bs
 | [],i,bs,_,h=>by cases h
 | x::L,0,bs,b,h=>by
  cases h;rw[ahA,agU,aaA,afZ,ahl (by rw[b x aa5];exact aac _),aai (by rw[b x aa5];exact aac _)]
 | x::L,i+1,bs,b,h=>by
  have c:=b x aa5;rw[aaA,afZ,List.drop_append,ae5 (by rw[c,agL];lia),ag1,c,show (i+1)*m - m=i*m by rw[agL];lia];exact Gp (λy d=>b y (aaL _ d)) h
theorem SG.all_at(p:SG){i n:Nat}{bs:List Int}(f:∀j x,((p.lv.map bD).flatten)[j]?=some x->p.al[p.off+j]?=some (.int x))(h:p.lv[i]?=some bs)(b:n<many p.ns.length):p.all[p.off+i*many p.ns.length+n]?=some (.int (cB bs n)):=by
 have d:=(p.lv_mem (aag h)).2;have e:=Gp (m:=many p.ns.length) (λx c=>by rw[bA,(p.lv_mem c).2]) h;rw[Nat.add_assoc];refine f _ _ ?_;rw[<-age,<-afA b,e,mX (by rw[d];exact b)]
structure SQ(H:Hp)(Ph:Addr)(p:SG)(ss:List Int):Prop where
 t:H p.t=some (.tup [.int (p.ns.length:Int),.ref p.k,.ref p.c])
 k:H p.k=some (.tup (p.ms.map V.int))
 c:H p.c=some (.tup (p.ls.map V.ref))
 ls:tD H p.ls (p.lv.map λbs=>TQ bs (many p.ns.length))
 b:H p.bl=some (.lst p.all)
 at0:∀j x,((p.lv.map bD).flatten)[j]?=some x->p.al[p.off+j]?=some (.int x)
 kd:Kinds p.ns p.ms
 sz:ir p.ms.length (2^p.h)
 h12:p.h<=12
 len:p.ns.length<=4000
 sn:H p.sn=some (.lst (ss.map V.int))
 ne:p.sn≠p.bl
 few:ss.length<=900000
 clo:Ul H (p.g,some p.sn,p.bl,p.off,p.al)
 tab:TabAt H Ph (cj bF) aQ.qual
structure ik(H H':Hp)(Ph:Addr)(p:SG)(k:Nat)(U ss ss':List Int):Prop where
 kp:∀b o,H b=some o->b≠Ph->b≠p.sn->H' b=some o
 seen:H' p.sn=some (.lst (ss'.map V.int))
 tab:TabAt H' Ph (cj bF) aQ.qual
 wr:Us p.all.length k U ss ss'
theorem ik.trans{H l i:Hp}{d:Addr}{p:SG}{j k:Nat}{U V a b c:List Int}(h:ik H l d p j U a b)(h':ik l i d p k V b c):ik H i d p (j+k) (U++V) a c:=
 (λx o e g f=>h'.kp x o (h.kp x o e g f) g f,h'.seen,h'.tab,h.wr.trans h'.wr)
theorem ik.le{H d:Hp}{c:Addr}{p:SG}{j k:Nat}{U V a b:List Int}(h:ik H d c p j U a b)(f:j<=k)(e:∀x∈U,x∈V):ik H d c p k V a b:=(h.kp,h.seen,h.tab,h.wr.le f e)
theorem ik.same{H f d:Hp}{c:Addr}{p:SG}{j:Nat}{U a b:List Int}(h:ik H f c p j U a b)(s:aO f d):ik H d c p j U a b:=
 (λx o e i g=>s _ _ (h.kp x o e i g),s _ _ h.seen,TabAt.same h.tab s,h.wr)
theorem ik.set{X:Hp}{r:Addr}{p:SG}{k:Nat}{U :List Int}{g:List V}(c:ik H X f p k U d M)(n:H r=none)(m:X r=some (.lst l))(h:r≠p.sn):ik H (L2.upd X r (.lst g)) f p k U d M:=
 (λb o e j i=>by rw[aH (aJ e n)];exact c.kp b o e j i,by rw[aH h.symm];exact c.seen,TabAt.upd c.tab m,c.wr)
theorem SQ.self{p:SG}(h:SQ H f p d):ik H H f p 0 [] d d:=(λ_ _ e _ _=>e,h.sn,h.tab,Us.none _ d)
def Kp(H H':Hp):Prop:=∀b o,H b=some o->(∀c,o ≠ .Tf c)->(∀c,o ≠ .lst c)->H' b=some o
theorem SQ.kp{H H':Hp}{g:Addr}{p:SG}{k:Nat}{U f c:List Int}(h:SQ H g p f)(d:ik H H' g p k U f c):Kp H H':=λb o e j i=>d.kp b o e (TabAt.ne h.tab e j) λz=>by
 rw[z,h.sn]at e;cases e;exact i _ rfl
theorem SQ.did{H':Hp}{p:SG}{k:Nat}{U :List Int}(h:SQ H f p d)(g:ik H H' f p k U d M)(j:M.length<=900000):SQ H' f p M:=by
 have i:=h.kp g;refine(i _ _ h.t nofun nofun,i _ _ h.k nofun nofun,i _ _ h.c nofun nofun,h.ls.to λb l e=>i _ _ e nofun nofun,g.kp _ _ h.b (TabAt.ne h.tab h.b nofun) h.ne.symm,h.at0,h.kd,h.sz,h.h12,h.len,g.seen,h.ne,j,Ul.keeps _ _ _ h.clo λb o e=>i _ _ e nofun nofun,g.tab)
theorem SQ.same{H H':Hp}{c:Addr}{p:SG}{b:List Int}(h:SQ H c p b)(s:aO H H'):SQ H' c p b:=h.did (h.self.same s) h.few
inductive Lv(H:Hp)(p:SG)(i:Nat)(l:Addr):Prop
 | mk (Tt ah f:Addr) (bs:List Int) (_:p.lv[i]?=some bs) (_:H l=some (.tup [.ref Tt,.ref f])) (_:H Tt=some (.tup [.int (p.ns.length:Int),.ref ah])) (_:H ah=some (.tup ((TQ bs (many p.ns.length)).map V.int))) (_:gU H (f,some p.sn,p.bl,p.off+i*many p.ns.length,p.all))
theorem Lv.kept{H H':Hp}{p:SG}{i:Nat}{l:Addr}(h:Lv H p i l)(s:Kp H H'):Lv H' p i l:=by
 obtain⟨m,k,f,j,g,e,d,c,b⟩:=h;exact(m,k,f,j,g,s _ _ e nofun nofun,s _ _ d nofun nofun,s _ _ c nofun nofun,b.kept s)
theorem Kp.of{H':Hp}(s:aO H H'):Kp H H':=λb o e _ _=>s _ _ e
theorem Lv.ask{p:SG}{i:Nat}{l:Addr}(x:SQ H C p d)(h:Lv H p i l):∃(c k f:Addr) (bs:List Int),p.lv[i]?=some bs/\H l=some (.tup [.ref c,.ref f])/\Ask H c (f,some p.sn,p.bl,p.off+i*many p.ns.length,p.all) k bs d []:=by
 obtain⟨c,k,f,bs,j,t,s,r,q⟩:=h;obtain⟨o,g⟩:=p.lv_mem (aag j);refine(c,k,f,bs,j,t,(by rw[g];exact s,by rw[g];exact r,by decide),(q,λsn e=>?_,x.b,?_),o,?_,λn m=>p.all_at x.at0 j (by rw[<-g];exact m))
 ·cases e;exact(x.sn,x.ne)
 ·have:=x.few;lia
 ·have:=x.len;lia
theorem SQ.look{H':Hp}{p:SG}{U:List Int}{k:Nat}{L:LK}(h:SQ H f p d)(c:L.wr=some p.sn)(g:L.all=p.all)(w:Us L.all.length k U d M)(s:aO (L.put H M) H'):ik H H' f p k U d M:=by
 rw[LK.put_some c]at s;rw[g]at w;exact(λx o e i b=>s _ _ (by rw[aH b];exact e),s _ _ au,TabAt.same (TabAt.upd h.tab h.sn) s,w)
inductive zx(Ph:Addr)(vs:List V)(H:Hp)(Q:VK)(_e1:XK):Prop
 | mk (p:SG) (ss:List Int) (_:vs=[.ref p.t,.ref p.g]) (_:SQ H Ph p ss) (_:∀(r:Addr) (lv:List Addr) (H':Hp),H r=none->H' r=some (.lst (lv.map V.ref))->lv.length=p.h->(∀i l,lv[i]?=some l->Lv H' p i l)->ik H H' Ph p 0 [] ss ss->Q (.ref r) H')
theorem zb(T:Tx K mg a)(B:Bs mg base a):aV P w K mg base S6 2 a.ady a.acU ["tables","look"] (zx a.TJ):=by
 refine T.adQ.F.S9 eX λa7 A a3 s H vs Q E hr h=>?_;obtain⟨p,O,rfl,x,q⟩:=h;refine(_,(aj (aA 2 eX.nd (cX ak))
  (aj (aA 3 eX.nd ao)
  (aj (bI PassesOwn.never rfl (Qt (aW aU (pv 0) ao)) (aR 4 eX.nd) (aj (bu (gR PySem.F.plainAttrs_list PySem.F.slot_list_append PySem.F.type_list_append bZ (pv 2) (aa (iM (aa (iM (aa (aW aU (pv 0) ao) (aa (pv 4) ak))) (aa (aF T.Y4 (pC T B) hr (aa (pv 1) (aa (pv 3) ak))) ak))) ak)))
  (aq (aA 3 eX.nd (aB bz (aB bc (pv 3) (aK aN rfl T.Th Tw.bh (aa (pv 4) ak))) ao)))))
  (aq (aD (pv 2)))))),?_)
 refine((by show 0<=sizeLine;decide),λr D=>?_);have We:r≠p.sn:=(aJ x.sn D).symm;have d0:=(x.self).same (az D (.lst []));have x0:=x.did d0 x.few;have k:upd H r (.lst []) r=some (.lst []):=au;generalize upd H r (.lst [])=H0 at *;have a0:p.ls.length=p.h:=by rw[x.ls.1,aaa,p.lv_len]
 have a6:=x.h12;have a4:=x.len;exists _,rfl,p.t,_,_,_,rfl,rfl,S7.of x0.t,rfl,p.c,rfl,(_,S7.of x0.c);refine Mw (xs:=p.ls.map V.ref) (λi X u=>(∃k4,X=[some (.ref p.t),some (.ref p.g),some (.ref r),some (.int ((i*many p.ns.length:Nat):Int)),k4])/\ik H u a.TJ p 0 [] O O /\ ∃m:List Addr,u r=some (.lst (m.map V.ref))/\m.length=i /\ ∀j l,m[j]?=some l->Lv u p j l) ((none,?_),d0,[],k,rfl,λj l e=>by cases e) ?_ ?_ ?_
 ·rw[ahA];rfl
 ·rintro i X u _ ⟨_,d,_⟩;exact S7.of ((x.did d x.few).c)
 ·rintro i y X u hy ⟨⟨k4,rfl⟩,d,m,k,VN,v⟩;rw[aah]at hy;obtain⟨C,UW,rfl⟩:=abu.mp hy;have a5:=(aab.mp UW).1;obtain⟨N,U⟩:∃N,p.lv[i]?=some N:=(_,aad (by rw[p.lv_len];lia));have x1:=x.did d x.few;have G:=x1.ls.2 i C (TQ N (many p.ns.length)) UW (by rw[aah,U];rfl);refine(_,rfl,.inl (rfl,_,My.of k),_,rfl,p.t,_,_,_,rfl,rfl,S7.of x1.t,rfl,_,rfl,(by show 2<=sizeLine;decide),λn Yb=>?_);have R:=az Yb (.tup [.int (p.ns.length:Int),.ref C]);have I:=x1.same R;have S:upd u n (.tup [.int (p.ns.length:Int),.ref C]) n=some (.tup [.int (p.ns.length:Int),.ref C]):=au
  replace k:=R _ _ k
  replace G:=R _ _ G
  replace d:=d.same R
  replace v:∀j l,m[j]?=some l->Lv (upd u n (.tup [.int (p.ns.length:Int),.ref C])) p j l:=λj l e=>(v j l e).kept (Kp.of R)
  generalize upd u n (.tup [.int (p.ns.length:Int),.ref C])=H1 at *;have cg:=I.clo;refine(_,rfl,_,rfl,p.g,i*many p.ns.length,rfl,I.tab,λf cs J hf a1 Y W la=>?_);have Z:Kp H1 J:=λb o e n1 n2=>Y _ _ e (TabAt.ne I.tab e n1);have d2:ik H1 J a.TJ p 0 [] O O:=(λb o e n1 n2=>Y _ _ e n1,Y _ _ I.sn (TabAt.ne I.tab I.sn nofun),W,Us.none _ O);have lk:gU J (f,some p.sn,p.bl,p.off+i*many p.ns.length,p.all):=.inr (.inr (p.g,i*many p.ns.length,cs,Nat.le_add_left _ _,la,by rw[ag3];exact Ul.keeps.hid cg a1 λb o e=>Z _ _ e nofun nofun))
  replace k:=Y _ _ k (TabAt.ne I.tab k nofun)
  replace G:=Z _ _ G nofun nofun
  replace S:=Z _ _ S nofun nofun
  replace d:=d.trans d2
  replace v:∀j l,m[j]?=some l->Lv J p j l:=λj l e=>(v j l e).kept Z
  refine((by show 2<=sizeLine;decide),λl hl=>(r,_,_,rfl,rfl,az hl _ _ _ k,?_,?_))
  ·rw[aaa,VN,sizeLine_eq];lia
  have L:=az hl (.tup [.ref n,.ref f]);have xl:upd J l (.tup [.ref n,.ref f]) l=some (.tup [.ref n,.ref f]):=au
  replace k:=L _ _ k
  replace G:=L _ _ G
  replace S:=L _ _ S
  replace lk:=lk.same L
  replace d:=d.same L
  replace v:∀j M,m[j]?=some M->Lv (upd J l (.tup [.ref n,.ref f])) p j M:=λj M e=>(v j M e).kept (Kp.of L)
  generalize upd J l (.tup [.ref n,.ref f])=H3 at *;have ZP:Kp H3 (upd H3 r (.lst (m.map V.ref++[.ref l]))):=λb o e _ n2=>by
   rw[aH λz=>by rw[z,k]at e;cases e;exact n2 _ rfl];exact e
  have a2:((TQ N (many p.ns.length)).map V.int).length=many p.ns.length+1:=by rw[aaa,dZ]
  refine(_,rfl,_,rfl,C,_,rfl,.inr (S7.of (ZP _ _ G nofun nofun)),_,_,rfl,rfl,_,_,rfl,rfl,(some (.ref C),?_),d.set D k We,m++[l],?_,?_,λj M e=>?_)
  ·have e:((i*many p.ns.length:Nat):Int)+(((TQ N (many p.ns.length)).map V.int).length:Int) - 1=(((i+1)*many p.ns.length:Nat):Int):=by
    rw[a2,agL];lia
   rw[<-e];rfl
  ·rw[au,aal];rfl
  ·rw[aaf,VN];rfl
  ·rcases aas j m.length with c|c
   ·rw[aaw c]at e;exact(v j M e).kept ZP
   ·rw[aaz c]at e;have:j - m.length=0:=by
     have:=(aab.mp e).1;simp at this;lia
    rw[this]at e;cases e;have hj:j=i:=by lia
    subst hj;exact Lv.kept (n,C,f,N,U,xl,S,G,lk) ZP
 ·rintro X u ⟨⟨k4,rfl⟩,d,m,k,VN,v⟩;exact(_,rfl,q r m u D k (by rw[VN,aaa];exact a0) v d)
def cnt(os:List Int)(k:Nat)(c:Int)(j:Nat):Nat:=((os.take j).filter λz=>bit z k=c).length
def pos(os:List Int)(k:Nat)(c:Int)(j:Nat):Nat:=(if c=0 then 0 else (os.filter λz=>bit z k=0).length)+cnt os k c j
def ZQ(bs:List Int)(j:Nat)(c:Int):Int:=if c=0 then (j:Int) - (bs.take j).sum else (bs.length:Int) - bs.sum+(bs.take j).sum
theorem yP(z:Int)(k:Nat):bit z k=0\/bit z k=1:=by
 unfold bit;lia
theorem Cr(os:List Int)(k:Nat):((os.map λz=>bit z k).sum=((os.filter λz=>bit z k=1).length:Int))/\(os.filter λz=>bit z k=0).length+(os.filter λz=>bit z k=1).length=os.length:=by
 induction os with
 | nil=>exact(rfl,rfl)
 | cons z os b =>
  rw[aaA,ahq,b.1];rcases yP z k with e|e
  ·simp only[agE,e,decide_true,if_true,aaY,show decide ((0:Int)=1)=false from rfl,acr,if_false];lia
  ·simp only[agE,e,decide_true,if_true,aaY,show decide ((1:Int)=0)=false from rfl,acr,if_false];lia
theorem Nf{os:List Int}{k j:Nat}{c:Int}(d:j<=os.length)(e:c=0\/c=1):ZQ (os.map λz=>bit z k) j c=((pos os k c j:Nat):Int):=by
 have b:=Cr (os.take j) k;have f:=Cr os k;rw[aaI,aev d]at b;unfold ZQ pos cnt;rw[<-aie,b.1,f.1,aaa];rcases e with rfl|rfl
 ·rw[if_pos rfl,if_pos rfl];lia
 ·rw[if_neg (by decide),if_neg (by decide)];lia
theorem zq{f:Int->Bool}:∀{os:List Int}{j:Nat}{z:Int},os[j]?=some z->f z=true->(os.filter f)[((os.take j).filter f).length]?=some z
 | [],j,z,h,_=>by cases h
 | y::os,0,z,h,b=>by
  cases h;rw[ag6 b];rfl
 | y::os,j+1,z,h,b=>by
  have c:=zq (os:=os) (j:=j) h b;rw[agY];by_cases e:f y=true
  ·rw[ag6 e,ag6 e];exact c
  ·rw[ahQ e,ahQ e];exact c
theorem QZ{os:List Int}{k j:Nat}(h:os[j]?=some m):(Ur os k)[pos os k (bit m k) j]?=some m:=by
 unfold Ur pos cnt;rcases yP m k with e|e
 ·rw[e,if_pos rfl,agc];have:=zq (f:=λm=>decide (bit m k=0)) h (decide_eq_true e);rw[aaw (aab.mp this).1];exact this
 ·rw[e,if_neg (by decide),aaz (by lia),af2];exact zq (f:=λm=>decide (bit m k=1)) h (decide_eq_true e)
inductive wI(vs:List V)(H:Hp)(Q:VK)(E:XK):Prop
 | mk (t:Addr) (L:LK) (ah:Addr) (ns ss:List Int) (rest:List V) (at0:Nat) (_:vs=[.ref t,.ref L.f,.int (at0:Int)]) (_:Ask H t L ah ns ss rest) (_:ss.length<1000000) (_:at0<=ns.length) (_:∀ss' H',Us L.all.length 1 [((L.off+at0 / 32:Nat):Int)] ss ss'->aO (L.put H ss') H'->Q (.int ((at0:Int) - (ns.take at0).sum)) H')
theorem wg(T:Tx K mg a):aV P w K mg base S6 5 a.acL a.ab4 ["tables","look","at"] wI:=by
 refine T.ac6.F.S9 wL λo A f s H p Q E k h=>?_;obtain⟨t,L,m,j,g,rest,e,rfl,l,d,b,q⟩:=h;exists _,(aq (aD (aB bz (pv 2) (aF T.Wt (iY T) k (aa (pv 0) (aa (pv 1) (aa (pv 2) ak)))))));exact(_,rfl,_,rfl,_,rfl,_,rfl,t,L,m,j,g,rest,e,rfl,l,d,b,λc n w i=>(_,_,rfl,rfl,q c n w i))
inductive tM(vs:List V)(H:Hp)(Q:VK)(E:XK):Prop
 | mk (t ah:Addr) (ns:List Int) (_:vs=[.ref t]) (_:Tab H t ah ns []) (_:Q (.int ((ns.length:Int) - ns.sum)) H)
theorem tQ(T:Tx K mg a):aV P w K mg base S6 1 a.abK a.abb ["row"] tM:=by
 refine T.abQ.F.S9 tu λg A e s H i Q E j h=>?_;obtain⟨t,f,b,rfl,c,q⟩:=h;exists _,(aq (aD (aB bz (aW aU (pv 0) ao) (aW aU (aW aU (pv 0) ao) (lC jc ao)))));have d:Tz ((TQ b (many b.length)).map V.int) (-1)=some (.int b.sum):=by
  unfold TQ;rw[af1,aal,aal];refine(lA _ _).trans ?_;show some (V.int (b.take (32*many b.length)).sum)=_;rw[aai (by unfold many;lia)]
 exact(_,rfl,t,_,_,_,rfl,rfl,S7.of c.tup,rfl,_,rfl,t,_,_,_,rfl,rfl,S7.of c.tup,rfl,_,rfl,f,_,_,_,rfl,rfl,S7.of c.Uo,d,_,_,rfl,rfl,q)
inductive uU(Ph:Addr)(vs:List V)(H:Hp)(Q:VK)(E:XK):Prop
 | mk (p:SG) (ss:List Int) (i:Nat) (l:Addr) (bs:List Int) (at0:Nat) (c:Int) (_:vs=[.ref l,.int (at0:Int),.int c]) (_:SQ H Ph p ss) (_:Lv H p i l) (_:p.lv[i]?=some bs) (_:at0<=p.ns.length) (_:(c=0\/c=1)) (_:∀ss' H',ik H H' Ph p 1 [((i*many p.ns.length+at0 / 32:Nat):Int)] ss ss'->Q (.int (ZQ bs at0 c)) H')
theorem uK(T:Tx K mg a):aV P w K mg base S6 6 a.acg a.abJ ["level","at","bit"] (uU a.TJ):=by
 refine T.acx.F.S9 jb λG A u s H J Q E k h=>?_;obtain⟨p,y,i,l,n,g,c,rfl,x,C,e,D,B,q⟩:=h;refine(_,(aj (aA 3 jb.nd (aW aU (pv 0) ao))
  (aj (aA 4 jb.nd (aW aU (pv 0) ao))
  (aj (aX (aG cT (pv 2) ao) (aq (aD (aF T.ac6 (wg T) k (aa (pv 3) (aa (pv 4) (aa (pv 1) ak)))))) aL)
  (aq (aD (aB bc (aF T.abQ (tQ T) k (aa (pv 3) ak)) (aF T.Wt (iY T) k (aa (pv 3) (aa (pv 4) (aa (pv 1) ak)))))))))),?_)
 obtain⟨r,o,f,I,b,v,m⟩:=C.ask x;rw[e]at b;cases b;have L:=(p.lv_mem (aag e)).2;have z:=x.few;exists _,rfl,l,_,_,_,rfl,rfl,S7.of v,rfl,_,rfl,l,_,_,_,rfl,rfl,S7.of v,rfl;rcases B with rfl|rfl
 ·refine(_,rfl,rfl,_,rfl,jr ?_);exact(_,rfl,_,rfl,_,rfl,r,_,o,n,y,[],g,rfl,m,by lia,by lia,λd t w j=>q d t (x.look rfl rfl w j))
 ·refine(_,rfl,rfl,_,rfl,dN ?_);refine(_,rfl,r,o,n,rfl,m.tab,_,rfl,_,rfl,_,rfl,r,_,o,n,y,[],g,rfl,m,by lia,by lia,λd t w j=>(_,_,rfl,rfl,q d t (x.look rfl rfl w j)))
def ord(h:Nat)(os:List Int):Nat->List Int
 | 0=>os
 | i+1=>Ur (ord h os i) (h - 1 - i)
theorem ord_len(h:Nat)(os:List Int):∀i,(ord h os i).length=os.length
 | 0=>rfl
 | i+1=>(uo _ _).trans (ord_len h os i)
theorem Bw(k:Nat)(os:List Int):∀i,ord (k+1) os (i+1)=ord k (Ur os k) i
 | 0=>rfl
 | i+1=>by
  show Ur (ord (k+1) os (i+1)) (k+1 - 1 - (i+1))=Ur (ord k (Ur os k) i) (k - 1 - i);rw[Bw k os i,show k+1 - 1 - (i+1)=k - 1 - i by lia]
theorem KZ:∀(h:Nat) (os:List Int) (i:Nat),i<h->(Tq h os)[i]?=some ((ord h os i).map λz=>bit z (h - 1 - i))
 | 0,_,_,b=>by lia
 | k+1,os,0,_=>rfl
 | k+1,os,i+1,b=>by
  rw[Bw];show (Tq k (Ur os k))[i]?=_;rw[KZ k (Ur os k) i (by lia),show k+1 - 1 - (i+1)=k - 1 - i by lia]
theorem Ha(r:Int)(k:Nat):2*(r / 2^(k+1))+bit r k=r / 2^k:=by
 unfold bit;have e:r / 2^(k+1)=r / 2^k / 2:=by
  rw[aiq,ahL (Int.pow_nonneg (by decide))]
 rw[e];lia
theorem SG.lv_at(p:SG){i:Nat}(b:i<p.h):p.lv[i]?=some ((ord p.h (rks p.ms p.ns) i).map λz=>bit z (p.h - 1 - i)):=KZ _ _ _ b
theorem SG.ord_len(p:SG)(i:Nat):(ord p.h (rks p.ms p.ns) i).length=p.ns.length:=by
 rw[Tw.ord_len];unfold rks;exact aaa ..
theorem Ii(j:Nat):((2^j:Nat):Int)=(2:Int)^j:=by
 rw[Int.natCast_pow];rfl
theorem SQ.rank{p:SG}(x:SQ H f p d){j:Nat}(h:p.ns[j]?=some m):(rks p.ms p.ns)[j]?=some (p.ms.idxOf m:Int)/\(p.ms.idxOf m:Int) / 2^p.h=0/\p.ms[p.ms.idxOf m]?=some m:=by
 have c:m∈p.ms:=(x.kd.mem m).mpr (aag h);have b:=ahv c;obtain⟨_,_,g,_⟩:=x.sz;have i:p.ms.length<=2^p.h:=by
  obtain⟨k,e,g,_⟩:=x.sz;lia
 exists ?_,?_
 ·unfold rks;rw[aah,h];rfl
 ·refine Int.ediv_eq_zero_of_lt (by lia) ?_;rw[<-Ii];lia
 ·rw[aad b];exact congrArg some (aij b)
inductive Ey(Ph:Addr)(vs:List V)(H:Hp)(Q:VK)(E:XK):Prop
 | mk (p:SG) (ss:List Int) (at0:Int) (_:vs=[.ref p.t,.ref p.g,.int at0]) (_:SQ H Ph p ss) (_:ss.length<=800000) (j:Nat) (z:Int) (_:at0=(j:Int)) (_:p.ns[j]?=some z) (_:∀ss' U H',ik H H' Ph p (2*p.h) U ss ss'->Q (.int z) H')
theorem Dt(T:Tx K mg a)(B:Bs mg base a):aV P w K mg base S6 7 a.aeQ a.aed ["tables","look","at"] (Ey a.TJ):=by
 refine T.aeY.F.S9 eF λa8 A a3 s H vs Q E O h=>?_;obtain⟨p,S,b0,rfl,x,a4,j,z,rfl,hz,q⟩:=h;refine(_,(aj (bu (aF T.Wr (di T) O (aa (pv 2) (aa (aB bz (aW aU (pv 0) ao) ao) ak))))
  (aj (aA 3 eF.nd ao)
  (aj (aA 4 eF.nd (pv 2))
  (aj (bI PassesOwn.never rfl (bO (aF T.adQ (zb T B) O (aa (pv 0) (aa (pv 1) ak)))) (aR 5 eF.nd) (aj (aA 6 eF.nd (aF T.Ws (jL T) O (aa (aW aU (pv 5) ao) (aa (aW aU (pv 5) ao) (aa (pv 4) ak)))))
  (aj (aA 3 eF.nd (aB bc (aB cL ao (pv 3)) (pv 6)))
  (aq (aA 4 eF.nd (aF T.acx (uK T) O (aa (pv 5) (aa (pv 4) (aa (pv 6) ak)))))))))
  (aq (aD (aW aU (aW aU (pv 0) ao) (pv 3)))))))),?_)
 have a6:=(aab.mp hz).1;refine(_,rfl,_,rfl,p.t,_,_,_,rfl,rfl,S7.of x.t,rfl,_,_,rfl,rfl,_,_,rfl,by lia,by lia,?_);refine(_,rfl,_,rfl,_,rfl,p,S,rfl,x,λr lv H1 G xr Y hL d1=>?_);have N:=x.did d1 x.few;have a7:=x.h12;obtain⟨r1,r2,r3⟩:=x.rank hz;generalize a0:(p.ms.idxOf z:Int)=C at *;have We:r≠p.sn:=(aJ x.sn G).symm;have Z:r≠a.TJ:=λe=>by
  obtain⟨o,ho⟩:=TabAt.ex x.tab;rw[<-e,G]at ho;cases ho
 exists r,rfl,(_,My.of xr);refine b7 (xs:=lv.map V.ref) (λi M D=>∃(m:Nat) (X W:Option V) (b U:List Int),M=[some (.ref p.t),some (.ref p.g),some (.int (j:Int)),some (.int (C / 2^(p.h - i))),some (.int (m:Int)),X,W]/\(ord p.h (rks p.ms p.ns) i)[m]?=some C/\ik H1 D a.TJ p (2*i) U S b/\U.length<=i) ?_ ?_ ?_ ?_
 ·refine(j,none,none,S,[],?_,r1,N.self,aac _);rw[agA,r2];rfl
 ·rintro i M D _ ⟨_,_,_,_,_,_,_,d,_⟩;exact My.of (d.kp _ _ xr Z We)
 ·rintro i y M D c ⟨m,X,W,b,U,rfl,n,d,hU⟩;rw[aah]at c;obtain⟨l,hl,rfl⟩:=abu.mp c;have I:=(aab.mp hl).1;rw[Y]at I;have a2:=d.wr.len;have v:=N.did d (by lia);have L2:=(hL i l hl).kept (N.kp d);have J:=p.lv_at I;obtain⟨Tt,ah,f,a9,u,xl,hA⟩:=L2.ask v;rw[J]at u;cases u;have L:=(aab.mp n).1;rw[p.ord_len]at L;refine(_,rfl,l,_,_,_,rfl,rfl,S7.of xl,rfl,_,rfl,l,_,_,_,rfl,rfl,S7.of xl,rfl,_,rfl,Tt,_,ah,_,b,[],m,bit C (p.h - 1 - i),rfl,hA,by lia,?_,λT6 H2 w sm=>?_)
  ·rw[aah,n];rfl
  have R:=v.look (U:=[((i*many p.ns.length+m / 32:Nat):Int)]) rfl rfl w sm;have a5:=R.wr.len;have x3:=v.did R (by lia);have L3:=L2.kept (v.kp R);exists _,rfl,_,_,rfl,rfl,.inl (by decide,by decide),_,rfl,_,_,rfl,rfl;refine(_,rfl,_,rfl,_,rfl,p,T6,i,l,_,m,bit C (p.h - 1 - i),rfl,x3,L3,J,by lia,yP _ _,λUq H3 d3=>?_);have hk:p.h - i=(p.h - 1 - i)+1:=by lia
  have a1:m<=(ord p.h (rks p.ms p.ns) i).length:=by rw[p.ord_len];lia
  rw[Nf a1 (yP _ _)];exists _,some (.ref l),some (.int (bit C (p.h - 1 - i))),Uq,U++[((i*many p.ns.length+m / 32:Nat):Int)],?_,QZ n,((d.trans R).trans d3).le (by lia) ?_
  ·have e:=Ha C (p.h - 1 - i);rw[<-hk]at e;rw[show p.h - (i+1)=p.h - 1 - i by lia,<-e];rfl
  ·intro y c;rcases abn.mp c with c|c
   ·exact c
   ·exact aav _ c
  ·rw[aaf,afC];lia
 ·rintro M D ⟨m,X,W,b,U,rfl,n,d,hU⟩;have e:p.h - (lv.map V.ref).length=0:=by rw[aaa,Y,ag0]
  rw[aaa,Y]at hU d;have a2:=d.wr.len;have v:=N.did d (by lia);rw[e,Int.pow_zero,air];subst a0;exists _,rfl,p.t,_,_,_,rfl,rfl,S7.of v.t,rfl,_,rfl,p.k,_,_,_,rfl,rfl,S7.of v.k,oO r3;exact q b U D ((d1.trans d).le (by lia) λy c=>c)
structure SR where
 t:Addr
 t1:Addr
 t2:Addr
 t3:Addr
 ah:Addr
 nd:Addr
 k2:Addr
 c2:Addr
 Wd:Addr
 f:Addr
 sn:Addr
 bl:Addr
 lows:List Int
 S:Nat
 xs:List V
 ms:List Int
 h:Nat
 ls:List Addr
 ws:List Str
 ts:List Str
abbrev SR.ds(p:SR):List Int:=p.ts.map λt=>(t.length:Int)
abbrev SR.ns(p:SR):List Int:=(p.ts.drop 1).map fu
abbrev SR.es(p:SR):List Int:=p.ts.map (oK p.ws)
abbrev SR.L(p:SR):List (List Nat):=p.ts.map λt=>t.cps.toList
def SR.al(p:SR):List V:=(bD (brk p.ds 0)++((Tq p.h (rks p.ms p.ns)).map bD).flatten++bD p.es).map V.int
def SR.bp(p:SR):BP:=(p.t1,(p.f,some p.sn,p.bl,0,p.al),p.ah,p.nd,brk p.ds 0,p.lows,p.S,p.xs)
def SR.sg(p:SR)(g:Addr):SG:=(p.t2,p.k2,p.c2,p.bl,p.sn,g,p.ls,p.ns,p.ms,p.h,many (brk p.ds 0).length,p.al)
structure SA(H:Hp)(Ph Pt:Addr)(p:SR)(ss:List Int):Prop where
 t:H p.t=some (.tup [.ref p.t1,.ref p.t2,.ref p.t3])
 nd:Nd H Ph p.bp ss p.ds
 t2:H p.t2=some (.tup [.int (p.ns.length:Int),.ref p.k2,.ref p.c2])
 k:H p.k2=some (.tup (p.ms.map V.int))
 c:H p.c2=some (.tup (p.ls.map V.ref))
 ls:tD H p.ls ((Tq p.h (rks p.ms p.ns)).map λbs=>TQ bs (many p.ns.length))
 kd:Kinds p.ns p.ms
 sz:ir p.ms.length (2^p.h)
 h12:p.h<=12
 t3:Tab H p.t3 p.Wd p.es []
 clo:Uk H (p.f,some p.sn,p.bl,0,p.al)
 tab:TabAt H Pt (cj bF) aQ.qual
 begs:m7 p.ws p.ts
 low:∀w∈p.ws,T3 w
 len:p.ts.length<=2001
 few:ss.length<=500000
 ne:Pt≠Ph
structure gk(H H':Hp)(Ph Pt:Addr)(p:SR)(k:Nat)(ss ss':List Int):Prop where
 kp:∀b o,H b=some o->b≠Ph->b≠Pt->b≠p.sn->H' b=some o
 seen:H' p.sn=some (.lst (ss'.map V.int))
 tab:TabAt H' Ph (cj bQ) aY.qual
 tabT:TabAt H' Pt (cj bF) aQ.qual
 wr:bR p.al.length k ss ss'
theorem gk.trans{H n m:Hp}{f d:Addr}{p:SR}{j k:Nat}{a b c:List Int}(h:gk H n f d p j a b)(h':gk n m f d p k b c):gk H m f d p (j+k) a c:=
 (λx o e l i g=>h'.kp x o (h.kp x o e l i g) l i g,h'.seen,h'.tab,h'.tabT,h.wr.trans h'.wr)
theorem gk.le{H e:Hp}{d c:Addr}{p:SR}{j k:Nat}{a b:List Int}(h:gk H e d c p j a b)(f:j<=k):gk H e d c p k a b:=(h.kp,h.seen,h.tab,h.tabT,h.wr.le f)
theorem gk.same{H g f:Hp}{d c:Addr}{p:SR}{j:Nat}{a b:List Int}(h:gk H g d c p j a b)(s:aO g f):gk H f d c p j a b:=
 (λx o e l k i=>s _ _ (h.kp x o e l k i),s _ _ h.seen,TabAt.same h.tab s,TabAt.same h.tabT s,h.wr)
theorem gk.set{X:Hp}{r:Addr}{p:SR}{k:Nat}{h:List V}(c:gk H X f C p k d M)(q:H r=none)(g:X r=some (.lst l))(i:r≠p.sn):gk H (L2.upd X r (.lst h)) f C p k d M:=
 (λb o e n m j=>by rw[aH (aJ e q)];exact c.kp b o e n m j,by rw[aH i.symm];exact c.seen,TabAt.upd c.tab g,TabAt.upd c.tabT g,c.wr)
theorem Lf{c :Nat}:(V.str ⟨#[c]⟩=V.str ⟨#[n]⟩) ↔ c=n:=by
 constructor
 ·intro h;injection h with h
  injection h with h
  injection h with h
  injection h
 ·rintro rfl;rfl
theorem SA.sn{p:SR}(x:SA H f C p d):H p.sn=some (.lst (d.map V.int))/\p.sn≠p.bl:=x.nd.b.ask.asks.seen _ rfl
theorem SA.self{p:SR}(x:SA H f C p d):gk H H f C p 0 d d:=(λ_ _ e _ _ _=>e,x.sn.1,x.nd.b.tab,x.tab,bR.none d)
theorem SA.kp{H H':Hp}{i h:Addr}{p:SR}{k:Nat}{f c:List Int}(x:SA H i h p f)(d:gk H H' i h p k f c):Kp H H':=λb o e g j=>d.kp b o e (TabAt.ne x.nd.b.tab e g) (TabAt.ne x.tab e g) λz=>by
 rw[z,x.sn.1]at e;cases e;exact j _ rfl
theorem SA.did{H':Hp}{p:SR}{k:Nat}(x:SA H f C p d)(g:gk H H' f C p k d M)(i:M.length<=500000):SA H' f C p M:=by
 have h:=x.kp g;have B:=x.nd.b;have j:=g.kp _ _ B.ask.asks.nodes (TabAt.ne B.tab B.ask.asks.nodes nofun) (TabAt.ne x.tab B.ask.asks.nodes nofun) x.sn.2.symm;refine(h _ _ x.t nofun nofun,((((h _ _ B.ask.tab.tup nofun nofun,h _ _ B.ask.tab.Uo nofun nofun,B.ask.tab.few),(B.ask.asks.look.kept h,λm e=>?_,j,by lia),B.ask.bits,B.ask.len,B.ask.blk),h _ _ B.Vu nofun nofun,B.low,B.sz,B.heap,g.tab),by lia,x.nd.eq,x.nd.good),h _ _ x.t2 nofun nofun,h _ _ x.k nofun nofun,h _ _ x.c nofun nofun,x.ls.to λb l e=>h _ _ e nofun nofun,x.kd,x.sz,x.h12,(h _ _ x.t3.tup nofun nofun,h _ _ x.t3.Uo nofun nofun,x.t3.few),Uk.keeps _ _ _ x.clo λb o e=>h _ _ e nofun nofun,g.tabT,x.begs,x.low,x.len,i,x.ne);cases e;exact(g.seen,x.sn.2)
theorem TabAt.keep{H':Hp}{P :Addr}{pos :Pos}{q :Str}(h:TabAt H P pos q)(h':TabAt H f p x)(n:P≠f)(s:∀b o,H b=some o->b≠f->(∀ps,o ≠ .lst ps)->H' b=some o):TabAt H' P pos q:=by
 obtain⟨ps,l,k,c⟩:=h;exists ps,s _ _ l n nofun,k;rcases c with c|⟨m,g,e,t,j,d,i⟩
 ·exact .inl c
 ·exact .inr (m,g,e,t,j,s _ _ d (TabAt.ne h' d nofun) nofun,i)
theorem SA.tree{H':Hp}{p:SR}{k:Nat}(x:SA H f C p d)(c:Did H H' f p.bp.L k d M):gk H H' f C p k d M:=by
 have h:∀b,b≠p.sn->p.bp.L.wr≠some b:=λb n z=>n (aap z).symm;refine(λb o e g _ i=>c.kp b o e g (h b i),c.seen _ rfl,c.tab,TabAt.keep x.tab x.nd.b.tab x.ne λb o e g j=>c.kp b o e g (h b λz=>?_),c.wr);rw[z,x.sn.1]at e;cases e;exact j _ rfl
theorem SA.signs{H':Hp}{g:Addr}{p:SR}{k:Nat}{U :List Int}(x:SA H f C p d)(c:ik H H' C (p.sg g) k U d M):gk H H' f C p k d M:=by
 refine(λb o e _ h i=>c.kp b o e h i,c.seen,TabAt.keep x.nd.b.tab x.tab x.ne.symm λb o e j h=>c.kp b o e j λz=>?_,c.tab,c.wr);rw[show b=p.sn from z,x.sn.1]at e;cases e;exact h _ rfl
theorem SA.made{H':Hp}{p:SR}(x:SA H f C p d)(s:vG C H H')(t:TabAt H' C (cj bF) aQ.qual):gk H H' f C p 0 d d:=
 (λb o e _ c _=>s b o e c,s _ _ x.sn.1 (TabAt.ne x.tab x.sn.1 nofun),TabAt.keep x.nd.b.tab x.tab x.ne.symm λb o e g _=>s b o e g,t,bR.none d)
theorem SR.off_len(p:SR):(bD (brk p.ds 0)).length=many (brk p.ds 0).length:=bA _
theorem SA.sq{f:Addr}{p:SR}{cs:List Addr}(x:SA H C S p d)(l:∀c∈cs,H c=none)(s:vG S H H')(t:TabAt H' S (cj bF) aQ.qual)(m:eO H' f aQ cs [.ref p.f,.int ((many (brk p.ds 0).length:Nat):Int)]):SQ H' S (p.sg f) d:=by
 have g:=x.made s t;have y:=x.did g x.few;have q:=x.few;have n:=x.len;refine(y.t2,y.k,y.c,y.ls,y.nd.b.ask.asks.nodes,λj z i=>?_,x.kd,x.sz,x.h12,?_,y.sn.1,y.sn.2,by lia,(p.f,_,cs,aac _,m,?_),t)
 ·have i:(((Tq p.h (rks p.ms p.ns)).map bD).flatten)[j]?=some z:=i;show p.al[many (brk p.ds 0).length+j]?=some (.int z);unfold SR.al;rw[aah,abm,aaz (by rw[p.off_len];lia),p.off_len,af2,aaw (aab.mp i).1];exact congrArg (aiW V.int) i
 ·show p.ns.length<=4000;rw[aaa,abU];lia
 ·rw[ag0];exact Uk.keeps.hid x.clo l λb o e=>x.kp g _ _ e nofun nofun
inductive oZ(vs:List V)(H:Hp)(Q:VK)(_e1:XK):Prop
 | mk (t t1 ah:Addr) (x y:V) (ns:List Int) (rest:List V) (_:vs=[.ref t]) (_:H t=some (.tup [.ref t1,x,y])) (_:Tab H t1 ah ns rest) (_:Q (.int (many ns.length:Nat)) H)
theorem pK(T:Tx K mg a):aV P w K mg base S6 1 a.aaU a.aaG ["tables"] oZ:=by
 refine T.aaW.F.S9 oM λi A d s H j Q E k h=>?_;obtain⟨t,f,g,x,y,b,rest,rfl,ht,c,q⟩:=h;exists _,(aq (aD (aB bz (aK aN rfl T.Th Tw.bh (aa (aW aU (aW aU (pv 0) ao) ao) ak)) ao)));exists _,rfl,t,_,_,_,rfl,rfl,S7.of ht,rfl,f,_,_,_,rfl,rfl,S7.of c.tup,pA _ _ _ c.few,g,_,rfl,.inr (S7.of c.Uo),_,_,rfl,rfl;have e:(((TQ b (many b.length)).map V.int).length:Int) - 1=((many b.length:Nat):Int):=by
  rw[aaa,dZ];lia
 rw[<-e]at q;exact q
theorem vA:∀k,k<26->letters.cps.toList[k]?=some (97+k):=by decide +kernel
theorem La{t:Str}{u:List Nat}{c:Nat}(h:t.cps.toList=u++[c]):fu t=(c:Int) - 97:=by
 unfold fu;rw[h,aho]
theorem SA.at{H:Hp}{f e:Addr}{p:SR}{c:List Int}(x:SA H f e p c){i:Nat}{u:List Nat}(h:p.L[i]?=some u):∃t,p.ts[i]?=some t/\t.cps.toList=u/\T3 t:=by
 rw[aah]at h;obtain⟨t,b,d⟩:=abu.mp h;exact(t,b,d,x.begs.low x.low (aag b))
inductive yZ(Ph:Addr)(Pt:Addr)(vs:List V)(H:Hp)(Q:VK)(_e1:XK):Prop
 | mk (p:SR) (ss:List Int) (i:Nat) (u:List Nat) (c:Nat) (_:vs=[.ref p.t,.ref p.f,.int (i:Int)]) (_:SA H Ph Pt p ss) (_:p.L[i]?=some (u++[c])) (_:∀ss' H',gk H H' Ph Pt p 24 ss ss'->Q (.str ⟨#[c]⟩) H')
theorem oY(T:Tx K mg a)(B:Bs mg base a):aV P w K mg base S6 8 a.adC a.acZ ["tables","look","node"] (yZ a.Tr a.TJ):=by
 refine T.Zf.F.S9 zu λO A n s H R Q E g h=>?_;obtain⟨p,D,i,u,c,rfl,x,J,q⟩:=h
 exists _,(aq (aD (aW Ga (bG (v:=.str "abcdefghijklmnopqrstuvwxyz") rfl T.Zn (_,rfl)) (aF T.aeY (Dt T B) g (aa (aW aU (pv 0) ao) (aa (aF T.Y4 (pC T B) g (aa (pv 1) (aa (aF T.aaW (pK T) g (aa (pv 0) ak)) ak))) (aa (aB bz (pv 2) ao) ak)))))))
 have m:=x.few;obtain⟨t,ht,e,I⟩:=x.at J;have r:=x.begs.zero;have S:1<=i:=by
  rcases acz i with z|z
  ·subst z;rw[ht]at r;cases r;simp at e
  ·exact z
 have W:=I.2 c (by rw[e];exact aav _ (af3 _));have l:p.ns[i - 1]?=some ((c:Int) - 97):=by
  rw[aah,age,show 1+(i - 1)=i by lia,ht];exact congrArg some (La e)
 exists _,rfl,p.t,_,_,_,rfl,rfl,S7.of x.t,rfl,_,rfl,_,rfl,p.t,p.t1,p.ah,_,_,p.bp.ns,_,rfl,x.t,x.nd.b.ask.tab;refine(p.f,many p.bp.ns.length,rfl,x.tab,λf X Y V k o d G=>?_);have y:=x.made o d;have C:=x.did y m;refine(_,rfl,_,_,rfl,rfl,p.sg f,D,_,rfl,x.sq k o d G,by lia,i - 1,_,by lia,l,λj U M L=>?_);have N:=x.h12;exists letters,_,97+(c - 97),rfl,rfl,by decide,?_
 ·rw[show ((c:Int) - 97)=((c - 97:Nat):Int) by lia];exact mY (vA _ (by lia))
 ·rw[show 97+(c - 97)=c by lia];exact q j M ((y.trans (C.signs L)).le (by show 0+2*p.h<=24;lia))
def YF(L:List (List Nat))(t:List Nat)(c:Nat)(v:V):Prop:=(v=.non /\ ∀e,c<=e->t++[e]∉L) \/ ∃i e:Nat,v=.int (i:Int)/\L[i]?=some (t++[e])/\c<=e /\ ∀b,c<=b->b<e->t++[b]∉L
theorem SA.pc{p:SR}(x:SA H f C p d):PC p.L:=by
 refine(aio.mpr x.begs.up,λt ht k=>?_);obtain⟨u,b,rfl⟩:=abl.mp ht;exact abl.mpr (beg u k,x.begs.pre b k,cA u k)
theorem SR.lens(p:SR):p.ds=Tw.lens p.L:=by
 show p.ts.map _=(p.ts.map _).map _;rw[af0];exact agC λt _=>congrArg Nat.cast (aae).symm
theorem Qw.of{L:List (List Nat)}{j:Nat}{v:V}{t:List Nat}(h:PC L)(b:L[j]?=some t)(f:Qw (lens L) j v):(v=.non /\ ∀e,t++[e]∉L) \/ ∃i e:Nat,v=.int (i:Int)/\L[i]?=some (t++[e]) /\ ∀c,c<e->t++[c]∉L:=by
 obtain⟨d,hd,f⟩:=f;rw[m5 b]at hd;cases hd;obtain⟨k,g⟩:=h.first b;rcases f with ⟨rfl,f⟩|⟨rfl,f⟩
 ·obtain⟨e,m,l⟩:=k f;exact .inr (j+1,e,rfl,m,l)
 ·exact .inl (rfl,g f)
theorem ZD.of{L:List (List Nat)}{i e:Nat}{v:V}{t:List Nat}(h:PC L)(j:L[i]?=some (t++[e]))(f:ZD (lens L) i v):(v=.non /\ ∀c,e<c->t++[c]∉L) \/ ∃g b:Nat,v=.int (g:Int)/\L[g]?=some (t++[b])/\e<b /\ ∀c,e<c->c<b->t++[c]∉L:=by
 obtain⟨d,hd,f⟩:=f;rw[m5 j]at hd;have hd:d=((t.length:Int)+1):=by
  have:=aap hd;rw[aaf]at this;exact this.symm
 subst hd;obtain⟨l,k⟩:=h.next j;rcases f with ⟨rfl,f⟩|⟨rfl,f⟩
 ·obtain⟨b,n,m⟩:=l f;exact .inr (_,b,rfl,n,m)
 ·exact .inl (rfl,k f)
theorem JF{c :Nat}:(([c]:List Nat) < [n]) ↔ c<n:=oW (t:=[])
inductive wO(Ph:Addr)(Pt:Addr)(vs:List V)(H:Hp)(Q:VK)(_e1:XK):Prop
 | mk (p:SR) (ss:List Int) (j:Nat) (t:List Nat) (c:Nat) (_:vs=[.ref p.t,.ref p.f,.int (j:Int),.str ⟨#[c]⟩]) (_:SA H Ph Pt p ss) (_:ss.length<=400000) (_:p.L[j]?=some t) (_:∀v ss' H',YF p.L t c v->gk H H' Ph Pt p 1000 ss ss'->Q v H')
theorem wG(T:Tx K mg a)(B:Bs mg base a):aV P w K mg base S6 11 a.ac0 a.acn ["tables","look","node","letter"] (wO a.Tr a.TJ):=by
 refine T.adf.F.S9 jw λa5 A U s H vs Q E J h=>?_;obtain⟨p,Y,j,t,c,rfl,x,a2,hj,q⟩:=h;refine(_,(aj (aA 4 jw.nd (xJ T.aep (Bu T) (by decide) J O5 rfl (aa (aW aU (pv 0) ao) (aa (pv 1) (aa (pv 2) ak)))))
  (aj (mD PassesOwn.never (PW.pt (gw (gB (ue (pv 4))) (fZ (aG Qc (aF T.Zf (oY T B) J (aa (pv 0) (aa (pv 1) (aa (pv 4) ak)))) (pv 3))))) (aq (aA 4 jw.nd (xJ T.adc (wz T B) (by decide) J O5 rfl (aa (aW aU (pv 0) ao) (aa (pv 1) (aa (pv 4) ak)))))))
  (aq (aD (pv 4))))),?_)
 have Z:=x.pc;have R:j<p.ds.length:=by
  have:=(aab.mp hj).1;rw[aaa]at this ⊢;exact this
 refine(_,rfl,p.t,_,_,_,rfl,rfl,S7.of x.t,rfl,_,rfl,_,rfl,p.bp,Y,p.ds,_,rfl,x.nd,.inl (j,rfl,R,λv Tv H1 n D=>?_));rw[p.lens]at n;have o:=n.of Z hj;have D:=x.tree D;have I:∀{i e:Nat},p.L[i]?=some (t++[e])->97<=e/\e<=122:=λ{i e} h=>by
  obtain⟨u,_,hu,hw⟩:=x.at h;exact hw.2 e (by rw[hu];exact aav _ (af3 _))
 exists λm W O=>∃(v:V) (k:Nat) (b:List Int),W=[some (.ref p.t),some (.ref p.f),some (.int (j:Int)),some (.str ⟨#[c]⟩),some v]/\gk H O a.Tr a.TJ p k Y b/\k+32*m<=900/\((v=.non /\ ∀e,c<=e->t++[e]∉p.L) \/ ∃i e:Nat,v=.int (i:Int)/\p.L[i]?=some (t++[e])/\m=123 - e /\ ∀l,c<=l->l<e->t++[l]∉p.L),?_
 ·rcases o with ⟨rfl,o⟩|⟨i,e,rfl,g,o⟩
  ·exact(0,_,2,Tv,rfl,D,by decide,.inl (rfl,λe _=>o e))
  ·have:=I g;exact(123 - e,_,2,Tv,rfl,D,by lia,.inr (i,e,rfl,g,rfl,λl _ h=>o l h))
 ·rintro m W O ⟨v,k,b,rfl,d,hk,h⟩;have wl:=d.wr.len;have X:=x.did d (by lia);rcases h with ⟨rfl,h⟩|⟨i,e,rfl,g,hm,h⟩
  ·refine(_,rfl,_,rfl,dN (dN (_,rfl,q _ b O (.inl (rfl,h)) (d.le (by lia)))))
  ·have a3:=I g;refine(_,rfl,_,rfl,jr ?_);refine(_,rfl,_,rfl,_,rfl,p,b,i,t,e,rfl,X,g,λT6 H2 M=>?_);have a1:=M.wr.len;have G:=X.did M (by lia);have Xe:=d.trans M;refine(_,rfl,_,_,rfl,rfl,_,rfl,bC (λz=>?_) λz=>?_)
   ·have z:=JF.mp (of_decide_eq_true z);have S:i<p.ds.length:=by
     have:=(aab.mp g).1;rw[aaa]at this ⊢;exact this
    exists _,λ a0 H2 z=>z;refine(_,rfl,p.t,_,_,_,rfl,rfl,S7.of G.t,rfl,_,rfl,_,rfl,p.bp,T6,p.ds,_,rfl,G.nd,.inl (i,rfl,S,λv Uq H3 n C=>?_));rw[p.lens]at n;have C:=Xe.trans (G.tree C);rcases n.of Z g with ⟨rfl,f⟩|⟨i',l,rfl,r,a4,f⟩
    ·exact(0,by lia,_,_,Uq,rfl,C,by lia,.inl (rfl,λN h1=>f N (by lia)))
    ·have:=I r;refine(123 - l,by lia,_,_,Uq,rfl,C,by lia,.inr (i',l,rfl,r,rfl,λN h1 h2=>?_));exact f N (by lia) h2
   ·have z:¬e<c:=λy=>z (decide_eq_true (JF.mpr y));exact(_,rfl,q _ T6 H2 (.inr (i,e,rfl,g,by lia,h)) (Xe.le (by lia)))
structure Q0(L:List (List Nat))(u:List Nat)(is:List Nat):Prop where
 one:1<=is.length
 le:is.length<=u.length+1
 at':∀k i,is[k]?=some i->L[i]?=some (u.take k)
 no:is.length<=u.length->u.take is.length∉L
theorem xQ{i j:Nat}(c:u.length=i+1)(b:u[i]?=some j):Tz (nats u) (-1)=some (.int (j:Int)):=by
 have e:u=u.take i++[j]:=by
  have:=abW (l:=u) (i:=i);rw[b,aai (by lia)]at this;exact this
 rw[e];show Tz ((u.take i++[j]).map _) (-1)=_;rw[aal];exact lA _ _
inductive Eo(Ph:Addr)(Pt:Addr)(vs:List V)(H:Hp)(Q:VK)(_e1:XK):Prop
 | mk (p:SR) (ss:List Int) (u:Str) (_:vs=[.ref p.t,.ref p.f,.str u]) (_:SA H Ph Pt p ss) (_:ss.length<=200000) (_:u.length<=150) (_:∀(r:Addr) (is:List Nat) (ss':List Int) (H':Hp),H r=none->H' r=some (.lst (nats is))->Q0 p.L u.cps.toList is->gk H H' Ph Pt p (1100*is.length) ss ss'->Q (.ref r) H')
theorem DW(T:Tx K mg a)(B:Bs mg base a):aV P w K mg base S6 12 a.aeS a.aei ["tables","look","text"] (Eo a.Tr a.TJ):=by
 refine T.ae0.F.S9 jR λa7 A a1 s H vs Q E hr h=>?_;obtain⟨p,ss,u,rfl,x,a5,a4,q⟩:=h;refine(_,(aj (aA 3 jR.nd (cX (aa ao ak)))
  (aj (bI PassesOwn.never rfl (K6 (pv 2)) (aR 4 jR.nd) (aj (aA 5 jR.nd (aF T.adf (wG T B) hr (aa (pv 0) (aa (pv 1) (aa (aW ig (pv 3) (lC jc ao)) (aa (pv 4) ak))))))
  (aj (aX (PW.pt (nu (gB (oA (pv 5))) (kI (aG yf (aF T.Zf (oY T B) hr (aa (pv 0) (aa (pv 1) (aa (pv 5) ak)))) (pv 4))))) (aq (aD (pv 3))) aL)
  (aq (bu (gR PySem.F.plainAttrs_list PySem.F.slot_list_append PySem.F.type_list_append bZ (pv 3) (aa (pv 5) ak)))))))
  (aq (aD (pv 3))))),?_)
 have ul:u.cps.toList.length=u.length:=aae;have z0:p.L[0]?=some []:=by rw[aah,x.begs.zero];rfl
 refine((by show 1<=sizeLine;decide),λr g=>?_);have s0:=az g (.lst [.int 0]);have d0:=x.self.same s0;have xr:upd H r (.lst [.int 0]) r=some (.lst [.int 0]):=au;generalize upd H r (.lst [.int 0])=H0 at *;have We:r≠p.sn:=(aJ x.sn.1 g).symm;have U:r≠a.Tr:=λe=>by
  obtain⟨o,N⟩:=TabAt.ex x.nd.b.tab;rw[<-e,g]at N;cases N
 have S:r≠a.TJ:=λe=>by
  obtain⟨o,N⟩:=TabAt.ex x.tab;rw[<-e,g]at N;cases N
 exists _,rfl,u,rfl;refine Gz (λi σ O=>∃(k4 k5:Option V) (l:List Nat) (D:List Int),σ=[some (.ref p.t),some (.ref p.f),some (.str u),some (.ref r),k4,k5]/\O r=some (.lst (nats l))/\l.length=i+1/\(∀k m,l[k]?=some m->p.L[m]?=some (u.cps.toList.take k))/\gk H O a.Tr a.TJ p (1050*i) ss D) ?_ ?_ ?_
 ·refine(none,none,[0],ss,rfl,xr,rfl,λk m e=>?_,d0);cases k with
  | zero=>cases e;exact z0
  | succ k=>cases e
 ·rintro i c σ O hc ⟨k4,k5,l,D,rfl,Y,n,C,d⟩;have wl:=d.wr.len;have Wm:u.cps.toList[i]?=some c:=by rw[abT];exact hc
  have a2:=(aab.mp Wm).1;have x1:=x.did d (by lia);obtain⟨j,hj⟩:∃j,l[i]?=some j:=(_,aad (by lia));have a0:=C i j hj;have I:=xQ n hj;have G:u.cps.toList.take (i+1)=u.cps.toList.take i++[c]:=by rw[abW,Wm];rfl
  refine(_,rfl,_,rfl,_,rfl,_,rfl,r,_,_,_,rfl,rfl,My.of Y,I,_,rfl,p,D,j,_,c,rfl,x1,by lia,a0,λv T6 H2 M d2=>?_);have a3:=d2.wr.len;have x2:=x1.did d2 (by lia);have R:=d2.kp _ _ Y U S We;have Xe:=d.trans d2;rcases M with ⟨rfl,M⟩|⟨Z,e,rfl,W,a6,M⟩
  ·refine(_,rfl,_,rfl,jr (jr (_,rfl,q r l T6 H2 g R (by lia,by lia,C,λz=>?_) (Xe.le (by lia)))));rw[n,G];exact M c (aac _)
  ·refine(_,rfl,_,rfl,dN ?_);refine(_,rfl,_,rfl,_,rfl,p,T6,Z,_,e,rfl,x2,W,λUq H3 d3=>?_);have Yh:=d3.kp _ _ R U S We;have X:=Xe.trans d3;refine(_,rfl,rfl,_,rfl,bC (λz=>?_) λz=>?_)
   ·have z:e≠c:=λy=>by rw[decide_eq_true (Lf.mpr y)]at z;cases z
    refine(_,rfl,q r l Uq H3 g Yh (by lia,by lia,C,λ_=>?_) (X.le (by lia)));rw[n,G];exact M c (aac _) (by lia)
   ·have z:e=c:=Decidable.byContradiction λy=>z (by rw[decide_eq_false λh=>y (Lf.mp h)];rfl);subst z;exists _,rfl,.inl (rfl,_,My.of Yh),_,rfl,r,_,_,rfl,rfl,Yh,?_
    ·rw[aaa,n,sizeLine_eq];lia
    exists some (.str ⟨#[e]⟩),some (.int (Z:Int)),l++[Z],Uq,rfl,?_,?_,λk m J=>?_
    ·rw[au];show _=some (HO.lst ((l++[Z]).map _));rw[aal];rfl
    ·rw[aaf,n];rfl
    ·rcases aas k l.length with y|y
     ·rw[aaw y]at J;exact C k m J
     ·rw[aaz y]at J;have:k - l.length=0:=by
       have:=(aab.mp J).1;simp at this;lia
      rw[this]at J;cases J;rw[show k=i+1 by lia,G];exact W
    ·exact(X.set g Yh We).le (by lia)
 ·rintro σ O ⟨k4,k5,l,D,rfl,Y,n,C,d⟩;have e:u.cps.size=u.length:=rfl;refine(_,rfl,q r l D O g Y (by lia,by lia,C,λz=>by lia) (d.le (by lia)))
inductive Fp(Ph:Addr)(Pt:Addr)(vs:List V)(H:Hp)(Q:VK)(_e1:XK):Prop
 | mk (p:SR) (ss:List Int) (u:Str) (_:vs=[.ref p.t,.ref p.f,.str u]) (_:SA H Ph Pt p ss) (_:ss.length<=200000) (_:u.length<=150) (_:∀v ss' H',((v=.non/\u∉p.ts) \/ ∃i:Nat,v=.int (i:Int)/\p.ts[i]?=some u)->gk H H' Ph Pt p 170000 ss ss'->Q v H')
theorem SR.mem{p:SR}{u:Str}(h:u∈p.ts):u.cps.toList∈p.L:=abl.mpr (u,h,rfl)
theorem FQ(T:Tx K mg a)(B:Bs mg base a):aV P w K mg base S6 13 a.aeT a.aej ["tables","look","text"] (Fp a.Tr a.TJ):=by
 refine T.ae1.F.S9 uR λM A l s H N Q E C h=>?_;obtain⟨p,v,u,rfl,x,i,g,q⟩:=h;refine(_,(aj (aA 3 uR.nd (aF T.ae0 (DW T B) C (aa (pv 0) (aa (pv 1) (aa (pv 2) ak)))))
  (aj (aX (aG jj (aK aN rfl T.Th Tw.bh (aa (pv 3) ak)) (aK bw rfl T.Th Tw.bh (aa (pv 2) ak))) (aq (aD dY)) aL)
  (aq (aD (aW ig (pv 3) (lC jc ao)))))),?_)
 have O:u.cps.toList.length=u.length:=aae;refine(_,rfl,_,rfl,_,rfl,p,v,u,rfl,x,i,g,λr c b o J m f d=>?_);have L:=f.le;have d:=d.le (k:=170000) (by lia);refine(_,rfl,r,_,rfl,.inl (My.of m),_,rfl,u,rfl,by rw[sizeLine_eq];lia,_,_,rfl,rfl,_,rfl,bC (λz=>?_) λz=>?_)
 ·have z:(((nats c).length:Nat):Int)<=(u.length:Int):=of_decide_eq_true z;rw[aaa]at z;refine q .non b o (.inl (rfl,λD=>f.no (by lia) ?_)) d;exact x.pc.pre _ (SR.mem D) _
 ·have z:¬(((nats c).length:Nat):Int)<=(u.length:Int):=λy=>z (decide_eq_true y);rw[aaa]at z;obtain⟨j,n⟩:∃j,c[u.length]?=some j:=(_,aad (by lia));have e:=f.at' _ _ n;rw[aai (by lia)]at e;obtain⟨t,I,G,_⟩:=x.at e;refine(_,rfl,_,rfl,r,_,_,_,rfl,rfl,My.of m,xQ (by lia) n,q _ b o (.inr (j,rfl,?_)) d);rw[I,ie G]
def p6(x:Str):Prop:=∀c∈x.cps.toList,97<=c/\c<=122
theorem add_list(x y:Str):(x++y).cps.toList=x.cps.toList++y.cps.toList:=by
 show (x.cps++y.cps).toList=_;exact abY
theorem fY(x y:Str):(x++y).length=x.length+y.length:=by
 show (x.cps++y.cps).size=x.cps.size+y.cps.size;exact Array.size_append
theorem p6.add{x y:Str}(h:p6 x)(h':p6 y):p6 (x++y):=λc b=>by
 rw[add_list]at b;rcases abn.mp b with b|b
 ·exact h c b
 ·exact h' c b
theorem p6.cut{x:Str}(h:p6 x)(lo d:Option Int):p6 (lF x lo d):=λc b=>by
 unfold lF at b;rw[ahu]at b;exact h c (agg (agt b))
theorem yD(x:Str):x.cps.toList.length=x.length:=aae
inductive o4(vs:List V)(H:Hp)(Q:VK)(_e1:XK):Prop
 | mk (n kd f:Int) (m:Nat) (_:vs=[.int n,.int kd,.int f,.int (m:Int)]) (_:0<=n) (_:n<2147483647) (_:0<kd) (_:0<=f) (_:m<=100) (_:∀x:Str,x.length=m->p6 x->Q (.str x) H)
theorem cu(T:Tx K mg a):aV P w K mg base S6 1 a.adE a.ac2 ["_law_number","_law_kinds","_law_first","_law_many"] o4:=by
 refine T.Vt.F.S9 dF λN A z s H O Q E R h=>?_;obtain⟨n,g,f,m,rfl,C,B,G,Y,S,q⟩:=h;refine(_,(aj (aA 4 dF.nd nC)
  (aj (bI PassesOwn.never rfl (qU rfl T.Wb (aa (pv 3) ak)) (aR 5 dF.nd) (aj (aA 0 dF.nd (aB bT (aB bc (aB bc (aB cL (pv 0) (pv 0)) (aB cL ao (pv 0))) (pv 5)) ao))
  (aj (aA 6 dF.nd (aB bT (aB bc (pv 2) (aB bT (aB bL (pv 0) ao) (pv 1))) ao))
  (aq (aA 4 dF.nd (aB dq (pv 4) (aW Ga nC (pv 6))))))))
  (aq (aD (pv 4))))),?_)
 refine(_,rfl,(m:Int),rfl,by lia,by lia,?_);rw[abS];refine xG (λi l u=>∃(n:Int) (x:Str) (p o:Option V),l=[some (.int n),some (.int g),some (.int f),some (.int (m:Int)),some (.str x),p,o]/\u=H/\0<=n/\n<2147483647/\x.length=i/\p6 x) (n,⟨#[]⟩,none,none,rfl,rfl,C,B,rfl,λc k=>by cases k) ?_ ?_
 ·rintro i l u W ⟨b,x,p,o,rfl,rfl,D,v,r,t⟩;exists _,rfl,_,rfl,_,_,rfl,rfl,.inl (by lia,by lia),_,rfl,_,_,rfl,rfl,.inl (by decide,by decide),_,_,rfl,rfl,_,rfl,_,_,rfl,rfl,_,_,rfl,rfl,(by show (0:Int)<2147483629;decide);have I:=af4 (b*b+48271*b+(0+(i:Int))) (show (2147483629:Int)≠0 by decide);have X:=afX (b*b+48271*b+(0+(i:Int))) (show (0:Int)<2147483629 by decide);show fJ 0 (.int ((b*b+48271*b+(0+(i:Int)))%2147483629)) _ _ _;generalize (b*b+48271*b+(0+(i:Int)))%2147483629=d at *;have Z:=af4 (d / 64) (show g≠0 by lia);have M:=af4 (f+d / 64%g) (show (26:Int)≠0 by decide);have L:=afX (f+d / 64%g) (show (0:Int)<26 by decide);exists _,rfl,_,rfl,_,_,rfl,rfl,(by decide,by decide),_,rfl,_,_,rfl,rfl,G,_,_,rfl,rfl,_,_,rfl,rfl,(by show (0:Int)<26;decide);obtain⟨j,J⟩:∃j:Nat,(f+d / 64%g)%26=j:=(((f+d / 64%g)%26).toNat,by lia);show fJ 6 (.int ((f+d / 64%g)%26)) _ _ _;rw[J]at M L ⊢;have y:Tz letters.cps.toList (j:Int)=some (97+j):=by
   have:=vA j (by lia);obtain⟨U,e⟩:=aab.mp this;exact mY this
  exists _,rfl,_,rfl,letters,(j:Int),97+j,rfl,rfl,by decide,y,x,⟨#[97+j]⟩,rfl,rfl,?_
  ·rw[sizeLine_eq];show x.length+1<=_;lia
  refine(d,x++⟨#[97+j]⟩,_,_,rfl,rfl,I,by lia,by rw[fY,r];rfl,t.add λc k=>?_);have k:c∈[97+j]:=k;rw[aaj.mp k];lia
 ·rintro l u ⟨b,x,p,o,rfl,rfl,D,v,r,t⟩;exact(_,rfl,q x r t)
theorem T3.cut{x:Str}(h:T3 x)(lo b:Option Int):T3 (lF x lo b):=(adh (gr _ _ _) h.1,p6.cut h.2 lo b)
inductive Nh(K:PySem.W.Frag)(vs:List V)(H:Hp)(Q:VK)(_e1:XK):Prop
 | mk (c:Int) (p:Addr) (ws:List Str) (_:vs=[.int c,.ref p]) (_:My K H p (ws.map V.str)) (_:(∀w∈ws,T3 w)) (_:∀x:Str,T3 x->Q (.str x) H)
theorem Cm(T:Tx K mg a):aV P w K mg base S6 2 a.aek a.adF ["_law_cell","_law_words_here"] (Nh K):=by
 refine T.aer.F.S9 gm λa1 A L s H vs Q E C h=>?_;obtain⟨c,p,e,rfl,I,S,q⟩:=h;refine(_,(aj (aA 2 gm.nd (aB bT (aB cL (aB bL (pv 0) ao) ao) ao))
  (aj (aA 3 gm.nd (aB bT (pv 0) ao))
  (aj (aX (PW.pt (nu (aG cT (pv 3) ao) (kI (aG cT (aK aN rfl T.Th Tw.bh (aa (pv 1) ak)) ao)))) (aq (aD (aF T.Vt (cu T) C (aa (pv 2) (aa (aB bc ao (aB bT (pv 2) ao)) (aa (aB bT (aB bL (pv 2) ao) ao) (aa (aB bc ao (aB bT (aB bL (pv 2) ao) ao)) ak))))))) aL)
  (aj (aA 4 gm.nd (aW ig (pv 1) (aB bT (pv 2) (aK aN rfl T.Th Tw.bh (aa (pv 1) ak)))))
  (aj (aX (aG cT (pv 3) ao) (aq (aD (cC kO (pv 4) dB (cO (aB bT (aB bL (pv 2) ao) (aB bc (aK bw rfl T.Th Tw.bh (aa (pv 4) ak)) ao)))))) aL)
  (aj (aX (aG cT (pv 3) ao) (aq (aD (cC kO (aB dq (pv 4) (aF T.Vt (cu T) C (aa (pv 2) (aa ao (aa ao (aa (aB bc ao (aB bT (aB bL (pv 2) ao) ao)) ak)))))) dB (cO ao)))) aL)
  (aj (aX (PW.pt (gw (aG cT (pv 3) ao) (fZ (aG jf (aK bw rfl T.Th Tw.bh (aa (pv 4) ak)) ao)))) (aj (aA 5 gm.nd (aB bT (aB bL (pv 2) ao) (aK bw rfl T.Th Tw.bh (aa (pv 4) ak))))
  (aq (aD (aB dq (aB dq (cC kO (pv 4) dB (cO (pv 5))) (aF T.Vt (cu T) C (aa (pv 2) (aa ao (aa ao (aa ao ak)))))) (cC kO (pv 4) (cO (aB bc (pv 5) ao)) dB))))) aL)
  (aq (aD (aF T.Vt (cu T) C (aa (pv 2) (aa ao (aa ao (aa (aB bT (aB bL (pv 2) ao) ao) ak)))))))))))))),?_)
 have k:(e.map V.str).length=e.length:=aaa ..;exists _,rfl,_,_,rfl,rfl,(by decide,by decide),_,_,rfl,rfl,.inr (by decide,by decide),_,_,rfl,rfl,(by show (0:Int)<2147483629;decide);have D:=af4 (c / 6*48271) (show (2147483629:Int)≠0 by decide);have n1:=afX (c / 6*48271) (show (0:Int)<2147483629 by decide);show fJ 2 (.int (c / 6*48271%2147483629)) _ _ _;generalize c / 6*48271%2147483629=n at *;exists _,rfl,_,_,rfl,rfl,(by show (0:Int)<6;decide);show fJ 3 (.int (c%6)) _ _ _;generalize c%6=wy;have u:∀(B f:Int) (m:Nat),0<B->0<=f->m<=40->o4 [.int n,.int B,.int f,.int (m:Int)] H (λv t=>Q v t) (λ_ _ _=>False):=λB f m W U h3=>(n,B,f,m,rfl,D,by lia,W,U,by lia,λx l r=>q x (by lia,r));have g:o4 [.int n,.int (2+n%2),.int (n / 2%26),.int (1+n / 52%6)] H (λv t=>Q v t) (λ_ _ _=>False):=by
  have:=u (2+n%2) (n / 2%26) (1+n / 52%6).toNat (by lia) (by lia) (by lia);rw[aib (by lia)]at this;exact this
 refine(_,rfl,rfl,_,rfl,bC (λ_=>?_) λ_=>?_)
 ·exact jr (_,rfl,_,rfl,_,_,rfl,rfl,(by show (0:Int)<2;decide),_,_,rfl,rfl,_,rfl,_,_,rfl,rfl,(by decide,by decide),_,_,rfl,rfl,(by show (0:Int)<26;decide),_,rfl,_,_,rfl,rfl,(by decide,by decide),_,_,rfl,rfl,(by show (0:Int)<6;decide),_,_,rfl,rfl,g)
 refine(_,rfl,p,_,rfl,.inl I,rfl,_,rfl,bC (λ_=>?_) λO=>?_)
 ·exact(_,rfl,_,rfl,_,_,rfl,rfl,(by show (0:Int)<2;decide),_,_,rfl,rfl,_,rfl,_,_,rfl,rfl,(by decide,by decide),_,_,rfl,rfl,(by show (0:Int)<26;decide),_,rfl,_,_,rfl,rfl,(by decide,by decide),_,_,rfl,rfl,(by show (0:Int)<6;decide),_,_,rfl,rfl,g)
 have O:e.length≠0:=λz=>O (decide_eq_true (congrArg V.int (by rw[k,z];rfl)));have M:(0:Int)<(e.length:Int):=by lia
 have g0:=af4 n (show (e.length:Int)≠0 by lia);have g1:=afX n M;obtain⟨i,Y⟩:∃i:Nat,n%(e.length:Int)=i:=((n%(e.length:Int)).toNat,by lia);have N:i<e.length:=by lia
 have J:Tz (e.map V.str) (n%((e.map V.str).length:Int))=some (.str e[i]):=by
  rw[k,Y];exact mY (by rw[aah,aad N];rfl)
 have o:=S _ (abX N);exists _,rfl,_,rfl,_,rfl,p,_,rfl,.inl I,_,_,rfl,rfl,(by rw[k];exact M),p,_,_,_,rfl,rfl,I,J;generalize e[i]=b at *;have a0:=o.1;have d:b.length<=sizeLine:=by rw[sizeLine_eq];lia
 refine(_,rfl,rfl,_,rfl,bC (λ_=>?_) λ_=>?_)
 ·exact(_,rfl,_,rfl,_,_,rfl,rfl,(by decide,by decide),_,rfl,b,rfl,d,_,_,rfl,rfl,_,_,rfl,rfl,(by show (0:Int)<(b.length:Int)+1;lia),_,rfl,b,rfl,d,q _ (o.cut _ _))
 refine(_,rfl,rfl,_,rfl,bC (λ_=>?_) λ_=>?_)
 ·have Z:1+n / 64%3=(((1+n / 64%3).toNat:Nat):Int):=by lia
  refine(_,rfl,_,rfl,_,rfl,_,_,rfl,rfl,(by decide,by decide),_,_,rfl,rfl,(by show (0:Int)<3;decide),_,_,rfl,rfl,n,3,0,(1+n / 64%3).toNat,by rw[<-Z];rfl,D,by lia,by decide,by decide,by lia,λx l r=>?_);refine(b,x,rfl,rfl,by rw[sizeLine_eq];lia,_,rfl,_,rfl,by rw[fY,sizeLine_eq];lia,q _ (?_,p6.cut (p6.add o.2 r) _ _));rw[show (40:Int)=((40:Nat):Int)from rfl,um,uf];lia
 refine(_,rfl,rfl,_,rfl,ug ?_ λ_ R=>(_,rfl,b,rfl,d,_,_,rfl,rfl,_,rfl,bC (λc=>?_) λ_=>R))
 rotate_left
 ·have c:(0:Int)<(b.length:Int):=of_decide_eq_true c;have b0:=af4 (n / 64) (show (b.length:Int)≠0 by lia);have b1:=afX (n / 64) c;exists _,rfl,_,_,rfl,rfl,(by decide,by decide),_,rfl,b,rfl,d,_,_,rfl,rfl,(by show (0:Int)<(b.length:Int);lia);obtain⟨j,X⟩:∃j:Nat,n / 64%(b.length:Int)=j:=((n / 64%(b.length:Int)).toNat,by lia);show fJ 5 (.int (n / 64%(b.length:Int))) _ _ _;rw[X]at b0 b1 ⊢;refine(_,rfl,_,rfl,_,rfl,b,rfl,d,_,rfl,n,26,0,1,rfl,D,by lia,by decide,by decide,by decide,λx l r=>?_);have G:(lF b none (some (j:Int))).length=j:=by
   rw[um,uf];lia
  exists _,x,rfl,rfl,by rw[G,l,sizeLine_eq];lia,_,rfl,_,rfl,_,_,rfl,rfl,_,rfl,b,rfl,d;have l2:(lF b (some ((j:Int)+1)) none).length<=b.length - (j+1):=by
   unfold lF;show ((b.cps.toList.drop _).take _).toArray.size<=_;rw[aax,aaI,abU,yD,show (j:Int)+1=((j+1:Nat):Int) by lia,HT.jT,HT.lu];lia
  exact(_,_,rfl,rfl,by rw[fY,G,l,sizeLine_eq];lia,q _ (by rw[fY,fY,G,l];lia,((p6.cut o.2 _ _).add r).add (p6.cut o.2 _ _)))
 have y:o4 [.int n,.int (26),.int (0),.int (n / 8%5)] H (λv t=>Q v t) (λ_ _ _=>False):=by
  have:=u (26) (0) (n / 8%5).toNat (by lia) (by lia) (by lia);rw[aib (by lia)]at this;exact this
 exact(_,rfl,_,rfl,_,_,rfl,rfl,(by decide,by decide),_,_,rfl,rfl,(by show (0:Int)<5;decide),y)
theorem ud(x:Str):∀b:List Str,inV (.str x) (b.map V.str)=decide (x∈b)
 | []=>rfl
 | w::b=>by
  have c:=ud x b;unfold inV at c ⊢;rw[aaA,agQ,c];by_cases e:w=x
  ·subst e;rw[decide_eq_true (show w∈w::b from aa5)];have:U6 (.str w) (.str w)=true:=by simp[U6]
   rw[this,ais]
  ·have:U6 (.str w) (.str x)=false:=by simp[U6,e]
   rw[this,aig];exact decide_eq_decide.mpr (λh=>aaL _ h,λh=>by rcases aaH.mp h with h|h;exact absurd h.symm e;exact h)
theorem qm:∀b:List Str,(b.map V.str).all oJ=true
 | []=>rfl
 | w::b=>by
  rw[aaA,aid,qm b];rfl
inductive JN(K:PySem.W.Frag)(vs:List V)(H:Hp)(Q:VK)(_e1:XK):Prop
 | mk (s:Addr) (zs:List Int) (_:vs=[.ref s]) (_:My K H s (zs.map V.int)) (_:∀(r:Addr) (ws:List Str) (H':Hp),H r=none->aO H H'->H' r=some (.lst (ws.map V.str))->(∀w∈ws,T3 w)->ws.Nodup->ws.length<=63->much ws<=100->Q (.ref r) H')
theorem zH(T:Tx K mg a):aV P w K mg base S6 3 a.adG a.ac3 ["_law_script"] (JN K):=by
 refine T.adR.F.S9 dC λa1 A U s H vs Q E hr h=>?_;obtain⟨G,M,rfl,hS,q⟩:=h;refine(_,(aj (aA 1 dC.nd (cX ak))
  (aj (aA 2 dC.nd ao)
  (aj (bI PassesOwn.never rfl (bO (cC pP (pv 0) dB (cO ao))) (aR 3 dC.nd) (aj (aA 4 dC.nd (aF T.aer (Cm T) hr (aa (pv 3) (aa (pv 1) ak))))
  (aq (aX (PW.pt (gw (aG oU (pv 4) (pv 1) (by with_unfolding_all rfl)) (gw (aG jj (aK bw rfl T.Th Tw.bh (aa (pv 4) ak)) (pv 2)) (fZ (aG jH (aK aN rfl T.Th Tw.bh (aa (pv 1) ak)) ao))))) (aj (bu (gR PySem.F.plainAttrs_list PySem.F.slot_list_append PySem.F.type_list_append bZ (pv 1) (aa (pv 4) ak)))
  (aq (aA 2 dC.nd (aB bz (pv 2) (aK bw rfl T.Th Tw.bh (aa (pv 4) ak)))))) aL))))
  (aq (aD (pv 1)))))),?_)
 refine((by show 0<=sizeLine;decide),λr m=>?_);have W:=az m (.lst []);refine(_,rfl,_,rfl,G,_,rfl,W.seq hS,λc O=>(c,rfl,(_,My.of au),?_));have S:c≠r:=(aJ au O).symm;refine b7 (xs:=fB (M.map V.int) none (some 63)) (λi C k=>∃(o n:Option V) (d:List Str) (j:Nat),C=[some (.ref G),some (.ref r),some (.int (j:Int)),o,n]/\aO H k/\k c=some (.lst (fB (M.map V.int) none (some 63)))/\k r=some (.lst (d.map V.str))/\(∀w∈d,T3 w)/\d.Nodup/\d.length<=i/\much d+j=100) (none,none,[],100,rfl,W.trans (az O _),au,az O _ _ _ au,nofun,List.nodup_nil,aac _,rfl) ?_ ?_ ?_
 ·rintro i C k _ ⟨_,_,_,_,_,_,h,_⟩;exact My.of h
 ·rintro i x C k X ⟨o,n,d,j,rfl,D,N,l,t,I,J,Y⟩;have hi:=(aab.mp X).1;have a0:i<63:=by
   rw[show (63:Int)=((63:Nat):Int)from rfl,Lr,aaa,aaI]at hi;lia
  obtain⟨z,rfl⟩:=Gv X;refine(_,rfl,_,rfl,z,r,d,rfl,My.of l,t,λf Uz=>?_);have ZM:=Uz.1;exists _,rfl,_,rfl,r,_,rfl,.inl (My.of l),rfl,qm d,_,rfl;have y:∃(o n:Option V) (g:List Str) (u:Nat),[some (.ref G),some (.ref r),some (.int (j:Int)),some (.int z),some (.str f)]=[some (.ref G),some (.ref r),some (.int (u:Int)),o,n]/\aO H k/\k c=some (.lst (fB (M.map V.int) none (some 63)))/\k r=some (.lst (g.map V.str))/\(∀w∈g,T3 w)/\g.Nodup/\g.length<=i+1/\much g+u=100:=(_,_,d,j,rfl,D,N,l,t,I,by lia,Y);refine ug y λL nn=>(_,rfl,f,rfl,by rw[sizeLine_eq];lia,_,rfl,_,_,rfl,rfl,_,rfl,ug nn λZ R=>(_,rfl,r,_,rfl,.inl (My.of l),_,_,rfl,rfl,_,rfl,bC (λ_=>?_) λ_=>R));have Z:(f.length:Int)<=(j:Int):=of_decide_eq_true Z;have B:f∉d:=λh=>by
   have L:(!inV (.str f) (d.map V.str))=true:=L;rw[ud,decide_eq_true h]at L;cases L
  exists _,rfl,.inl (rfl,_,My.of l),_,rfl,r,_,_,rfl,rfl,l,?_
  ·rw[aaa,sizeLine_eq];lia
  refine(_,rfl,_,rfl,f,rfl,by rw[sizeLine_eq];lia,_,_,rfl,rfl,some (.int z),some (.str f),d++[f],j - f.length,?_,bK D m _,by rw[aH S];exact N,by rw[au,aal];rfl,λv p=>?_,?_,by rw[aaf,afC];lia,?_)
  ·rw[show ((j - f.length:Nat):Int)=(j:Int) - (f.length:Int) by lia];rfl
  ·rcases abn.mp p with p|p
   ·exact t v p
   ·rw[aaj.mp p];exact Uz
  ·refine ahG.mpr (I,ag7 _ _,λa ha b hb e=>?_);rw[aaj.mp hb]at e;exact B (e ▸ ha)
  ·rw[xm];lia
 ·rintro C k ⟨o,n,d,j,rfl,D,N,l,t,I,J,Y⟩;have J:d.length<=63:=by
   rw[show (63:Int)=((63:Nat):Int)from rfl,Lr,aaa,aaI]at J;lia
  exact(_,rfl,q r d k m D l t I J (by lia))
theorem Jz{b:List (Key×V)}(h:b.map (·.1)=N.map Sum.inr)(t:Str)(v:V):(putK b (Sum.inr t) v).map (·.1)=(if t∈N then N else N++[t]).map Sum.inr:=by
 have d:(fO b (Sum.inr t)).isSome=decide (t∈N):=by
  rw[<-gh];have:∀(b:List (Key×V)) (N:List Str),b.map (·.1)=N.map Sum.inr->(b.any λf=>decide (f.1=Sum.inr t))=decide (t∈N):=by
   intro b
   induction b with
   | nil =>
    intro N h;cases N with
    | nil=>rfl
    | cons _ _=>cases h
   | cons p b g =>
    intro N h;cases N with
    | nil=>cases h
    | cons a N =>
     rw[aaA,aaA]at h;injection h with k j
     rw[agQ,g N j,k];by_cases e:a=t
     ·subst e;rw[decide_eq_true rfl,ais];exact(decide_eq_true aa5).symm
     ·rw[decide_eq_false (λz=>e (Sum.inr.inj z)),aig];exact decide_eq_decide.mpr (λz=>aaL _ z,λz=>by rcases aaH.mp z with z|z;exact absurd z.symm e;exact z)
  exact this b N h
 by_cases c:t∈N
 ·rw[if_pos c];rw[decide_eq_true c]at d;unfold putK;rw[gh,d,if_pos rfl,af0,<-h];refine agC λp _=>?_;show (if p.1=Sum.inr t then (pq p.1 v)else p).1=p.1;split <;> rfl
 ·rw[if_neg c];rw[decide_eq_false c]at d;have i:fO b (Sum.inr t)=none:=by
   cases e:fO b (Sum.inr t)with
   | none=>rfl
   | some x=>rw[e]at d;cases d
  rw[Dg v i,aal,h,aal];rfl
inductive JL(K:PySem.W.Frag)(vs:List V)(H:Hp)(Q:VK)(_e1:XK):Prop
 | mk (p:Addr) (ws:List Str) (_:vs=[.ref p]) (_:My K H p (ws.map V.str)) (_:(∀w∈ws,T3 w)) (_:ws.length<=63) (_:much ws<=300) (_:∀(r:Addr) (ts:List Str) (H':Hp),H r=none->aO H H'->H' r=some (.lst (ts.map V.str))->m7 ws ts->ts.length<=1+much ws->Q (.ref r) H')
theorem zG(T:Tx K mg a):aV P w K mg base S6 1 a.adJ a.ac5 ["_law_words_here"] (JL K):=by
 refine T.adT.F.S9 iu λa2 A X s H vs Q E hr h=>?_;obtain⟨p,v,rfl,hS,hW,hl,hm,q⟩:=h;refine(_,(aj (aA 1 iu.nd (M6 (Lz nC nq Mp) rfl rfl (by simp) (by decide)))
  (aj (bI PassesOwn.never rfl (bO (pv 0)) (aR 2 iu.nd) (aq (bI PassesOwn.never rfl (qU rfl T.Wb (aa (aK bw rfl T.Th Tw.bh (aa (pv 2) ak)) ak)) (aR 3 iu.nd) (aq (zY (agd (agD (by decide:1<=64) _) hr.units) (pv 1) (cC kO (pv 2) dB (cO (aB bc (pv 3) ao))) nq rfl)))))
  (aq (aD (aK vC rfl T.Zk Tw.qP (aa (cI (vz rfl) rfl T.W6 Tw.ph (aa (pv 1) ak)) ak)))))),?_)
 intro m I;refine⟨au,[(pq (Sum.inr ⟨#[]⟩) (.bl true))],rfl,by decide,?_⟩;have s0:aO H (upd (upd H m (.dK [])) m (.dK (lJ [] [(pq (Sum.inr ⟨#[]⟩) (.bl true))]))):=bK (az I _) I _;have x0:upd (upd H m (.dK [])) m (.dK (lJ [] [(pq (Sum.inr ⟨#[]⟩) (.bl true))])) m=some (.dK [(pq (Sum.inr ⟨#[]⟩) (.bl true))]):=au;generalize upd (upd H m (.dK [])) m (.dK (lJ [] [(pq (Sum.inr ⟨#[]⟩) (.bl true))]))=H0 at *;exists _,rfl,p,rfl,(_,s0.seq hS);refine b7 (xs:=v.map V.str) (λi u r=>(∃O D,u=[some (.ref p),some (.ref m),O,D])/\aO H r /\ ∃(d:List (Key×V)) (f:List Str),r m=some (.dK d)/\d.map (·.1)=f.map Sum.inr/\f.Nodup/\f.length<=1+much (v.take i) /\ ∀t,t∈f ↔ t=⟨#[]⟩ \/ ∃w∈v.take i,t∈cZ w) ((none,none,rfl),s0,_,[⟨#[]⟩],x0,rfl,ag7 _ _,aac _,λt=>(λh=>.inl (aaj.mp h),λh=>by rcases h with h|⟨w,o,_⟩;exact aaj.mpr h;cases o)) ?_ ?_ ?_
 ·rintro i u r _ ⟨_,C,_⟩;exact C.seq hS
 ·rintro i x u r hx ⟨⟨O,D,rfl⟩,C,d,f,B,z,y,n,g⟩;rw[aah]at hx;obtain⟨l,R,rfl⟩:=abu.mp hx;have o:=(hW l (aag R)).1;have a0:=xU v i;have J:l.length<=sizeLine:=by rw[sizeLine_eq];lia
  refine(_,rfl,l,rfl,J,(l.length:Int),rfl,by lia,by lia,?_);rw[abS];refine xG (λj u r=>(∃D,u=[some (.ref p),some (.ref m),some (.str l),D])/\aO H r /\ ∃(d:List (Key×V)) (f:List Str),r m=some (.dK d)/\d.map (·.1)=f.map Sum.inr/\f.Nodup/\f.length<=1+much (v.take i)+j /\ ∀t,t∈f ↔ t=⟨#[]⟩\/(∃w∈v.take i,t∈cZ w) \/ ∃k,k<j/\t=beg l (k+1)) ((_,rfl),C,d,f,B,z,y,n,λt=>(λh=>by rcases(g t).mp h with h|h;exact .inl h;exact .inr (.inl h),λh=>by rcases h with h|h|⟨k,G,_⟩;exact(g t).mpr (.inl h);exact(g t).mpr (.inr h);exact absurd G (agl _))) ?_ ?_
  ·rintro j u r hj ⟨⟨D,rfl⟩,C,d,f,B,z,y,n,g⟩;have a1:d.length=f.length:=by
    have:=congrArg af7 z;rw[aaa,aaa]at this;exact this
   have ec:lF l none (some (0+(j:Int)+1))=beg l (j+1):=by
    rw[show (0+(j:Int)+1)=((j+1:Nat):Int) by lia,um]
   exists _,rfl,_,rfl,_,rfl,_,_,rfl,rfl,_,rfl,l,rfl,J,m,_,rfl,.inl (d,Sum.inr (beg l (j+1)),B,by rw[ec];rfl,by rw[sizeLine_eq];lia,rfl);refine((_,rfl),bK C I _,_,if beg l (j+1)∈f then f else f++[beg l (j+1)],au,Jz z _ _,?_,?_,λt=>?_)
   ·split
    ·exact y
    ·rename_i c;refine ahG.mpr (y,ag7 _ _,λa ha b hb e=>?_);rw[aaj.mp hb]at e;exact c (e ▸ ha)
   ·split
    ·lia
    ·rw[aaf,afC];lia
   ·have h1:t∈(if beg l (j+1)∈f then f else f++[beg l (j+1)]) ↔ t∈f\/t=beg l (j+1):=by
     split
     ·rename_i c;exact(.inl,λh=>by rcases h with h|h;exact h;rw[h];exact c)
     ·rw[abn,aaj]
    rw[h1,g t];constructor
    ·rintro((h|h|⟨k,G,h⟩) | h)
     ·exact .inl h
     ·exact .inr (.inl h)
     ·exact .inr (.inr (k,by lia,h))
     ·exact .inr (.inr (j,by lia,h))
    ·rintro(h|h|⟨k,G,h⟩)
     ·exact .inl (.inl h)
     ·exact .inl (.inr (.inl h))
     ·rcases aas k j with c|c
      ·exact .inl (.inr (.inr (k,c,h)))
      ·have:k=j:=by lia
       rw[this]at h;exact .inr h
  ·rintro u r ⟨⟨D,rfl⟩,C,d,f,B,z,y,n,g⟩;refine((_,_,rfl),C,d,f,B,z,y,?_,λt=>?_)
   ·rw[ahb,R];show _<=1+much (v.take i++[l]);rw[xm];lia
   ·rw[g t,ahb,R];constructor
    ·rintro(h|⟨w,o,h⟩|⟨k,G,h⟩)
     ·exact .inl h
     ·exact .inr (w,afU _ o,h)
     ·refine .inr (l,aav _ (af3 _),?_);unfold cZ;exact abl.mpr (k,agi.mpr G,h.symm)
    ·rintro(h|⟨w,o,h⟩)
     ·exact .inl h
     ·rcases abn.mp o with o|o
      ·exact .inr (.inl (w,o,h))
      ·rw[aaj.mp o]at h;unfold cZ at h;obtain⟨k,G,e⟩:=abl.mp h;exact .inr (.inr (k,agi.mp G,e.symm))
 rintro u H1 ⟨⟨O,D,rfl⟩,Tg,d,f,B,z,y,n,g⟩;rw[aaa,aai (aac _)]at n g;refine(_,rfl,m,d,rfl,B,λN U=>?_);have Z:=az U (.lst (d.map λp=>kV p.1));have W:(d.map λp=>kV p.1)=f.map V.str:=by
  have:(d.map λp=>kV p.1)=(d.map (·.1)).map kV:=by
   rw[af0];rfl
  rw[this,z,af0];rfl
 have S:upd H1 N (.lst (d.map λp=>kV p.1)) N=some (.lst (f.map V.str)):=by rw[au,W]
 refine(N,f,rfl,My.of S,by lia,λso Y L M up=>?_);have t3:=az L (.lst (Y.map V.str));refine q so Y _ ((Tg.trans Z).free L) (Tg.trans (Z.trans t3)) au (uL up (M.nodup_iff.mpr y),λt=>?_) (by rw[M.length_eq];exact n);rw[M.mem_iff,g t];exact CT v t
inductive Ov(K:PySem.W.Frag)(vs:List V)(H:Hp)(Q:VK)(_e1:XK):Prop
 | mk (c:Int) (p:Addr) (ws:List Str) (_:vs=[.int c,.ref p]) (_:My K H p (ws.map V.str)) (_:(∀w∈ws,T3 w)) (_:∀x:Str,x.length<=145->Q (.str x) H)
theorem An(T:Tx K mg a):aV P w K mg base S6 2 a.ael a.adH ["_law_cell","_law_words_here"] (Ov K):=by
 refine T.aes.F.S9 eU λR A v s H U Q E l h=>?_;obtain⟨c,p,e,rfl,o,L,q⟩:=h;refine(_,(aj (aA 2 eU.nd (aB bT (aB cL (aB bL (pv 0) ao) ao) ao))
  (aj (aA 3 eU.nd nC)
  (Oe (aX (aG jf (aK aN rfl T.Th Tw.bh (aa (pv 1) ak)) ao) (aq (aA 3 eU.nd (aW ig (pv 1) (aB bT (aB bL (pv 2) ao) (aK aN rfl T.Th Tw.bh (aa (pv 1) ak)))))) aL)
  (aj (aA 4 eU.nd (aB bT (pv 0) ao))
  (aj (aX (aG cT (pv 4) ao) (aq (aD (cC kO (pv 3) dB (cO (aB bT (aB bL (pv 2) ao) (aB bc (aK bw rfl T.Th Tw.bh (aa (pv 3) ak)) ao)))))) aL)
  (aj (aX (aG cT (pv 4) ao) (aq (aD (aB dq (pv 3) (aF T.Vt (cu T) l (aa (pv 2) (aa ao (aa (aB bT (aB bL (pv 2) ao) ao) (aa (aB bc ao (aB bT (aB bL (pv 2) ao) (aB bz ao (aK bw rfl T.Th Tw.bh (aa (pv 3) ak))))) ak)))))))) aL)
  (aj (aX (aG cT (pv 4) ao) (aq (aD (aB dq (pv 3) (aF T.Vt (cu T) l (aa (pv 2) (aa ao (aa ao (aa ao ak)))))))) aL)
  (aj (aX (PW.pt (gw (aG cT (pv 4) ao) (fZ (aG jf (aK bw rfl T.Th Tw.bh (aa (pv 3) ak)) ao)))) (aj (aA 5 eU.nd (aB bT (aB bL (pv 2) ao) (aK bw rfl T.Th Tw.bh (aa (pv 3) ak))))
  (aq (aD (aB dq (aB dq (cC kO (pv 3) dB (cO (pv 5))) (aF T.Vt (cu T) l (aa (pv 2) (aa ao (aa ao (aa ao ak)))))) (cC kO (pv 3) (cO (aB bc (pv 5) ao)) dB))))) aL)
  (aj (aX (aG cT (pv 4) ao) (aq (aD (aF T.Vt (cu T) l (aa (pv 2) (aa ao (aa ao (aa (aB bT (aB bL (pv 2) ao) ao) ak))))))) aL)
  (aq (aD (pv 3)))))))))))),?_)
 have f:(e.map V.str).length=e.length:=aaa ..;exists _,rfl,_,_,rfl,rfl,(by decide,by decide),_,_,rfl,rfl,.inr (by decide,by decide),_,_,rfl,rfl,(by show (0:Int)<2147483647;decide);have k:=af4 (c / 6*69621) (show (2147483647:Int)≠0 by decide);have W:=afX (c / 6*69621) (show (0:Int)<2147483647 by decide);show fJ 2 (.int (c / 6*69621%2147483647)) _ _ _;generalize c / 6*69621%2147483647=n at *;exists λ y D=>∃b:Str,T3 b/\y=[some (.int c),some (.ref p),some (.int n),some (.str b),none,none]/\D=H,?_
 ·refine(_,rfl,p,_,rfl,.inl o,_,_,rfl,rfl,_,rfl,bC (λg=>?_) λ_=>(_,(aaK _,λc J=>by cases J),rfl,rfl));have g:(0:Int)<((e.map V.str).length:Int):=of_decide_eq_true g;rw[f]at g;have g0:=af4 (n / 8) (show (e.length:Int)≠0 by lia);have Z:=afX (n / 8) g;obtain⟨i,N⟩:∃i:Nat,n / 8%(e.length:Int)=i:=((n / 8%(e.length:Int)).toNat,by lia);have z:i<e.length:=by lia
  have r:Tz (e.map V.str) (n / 8%((e.map V.str).length:Int))=some (.str e[i]):=by
   rw[f,N];exact mY (by rw[aah,aad z];rfl)
  exact(_,rfl,_,rfl,_,_,rfl,rfl,(by decide,by decide),_,rfl,p,_,rfl,.inl o,_,_,rfl,rfl,(by rw[f];exact g),p,_,_,_,rfl,rfl,o,r,_,L _ (abX z),rfl,rfl)
 rintro y D ⟨b,I,rfl,rfl⟩;have O:=I.1;have d:b.length<=sizeLine:=by rw[sizeLine_eq];lia
 exists _,rfl,_,_,rfl,rfl,(by show (0:Int)<6;decide);show fJ 4 (.int (c%6)) _ _ _;generalize c%6=S;refine(_,rfl,rfl,_,rfl,bC (λ_=>?_) λ_=>?_)
 ·exact(_,rfl,_,rfl,_,_,rfl,rfl,(by decide,by decide),_,rfl,b,rfl,d,_,_,rfl,rfl,_,_,rfl,rfl,(by show (0:Int)<(b.length:Int)+1;lia),_,rfl,b,rfl,d,q _ (adh (gr _ _ _) (by lia)))
 refine(_,rfl,rfl,_,rfl,bC (λ_=>?_) λ_=>?_)
 ·have C:=af4 (n / 128) (show 100 - (b.length:Int)≠0 by lia);have B:=afX (n / 128) (show 0<100 - (b.length:Int) by lia);have u:1+n / 128%(100 - (b.length:Int))=(((1+n / 128%(100 - (b.length:Int))).toNat:Nat):Int):=by lia
  exact(_,rfl,_,rfl,_,rfl,_,_,rfl,rfl,(by decide,by decide),_,_,rfl,rfl,(by show (0:Int)<26;decide),_,rfl,_,_,rfl,rfl,(by decide,by decide),_,rfl,b,rfl,d,_,_,rfl,rfl,_,_,rfl,rfl,(by show (0:Int)<100 - (b.length:Int);lia),_,_,rfl,rfl,n,4,n / 4%26,(1+n / 128%(100 - (b.length:Int))).toNat,by rw[<-u];rfl,k,by lia,by lia,by lia,by lia,λx m _=>(b,x,rfl,rfl,by rw[sizeLine_eq];lia,q _ (by rw[fY];lia)))
 refine(_,rfl,rfl,_,rfl,bC (λ_=>?_) λ_=>?_)
 ·exact(_,rfl,_,rfl,n,26,0,1,rfl,k,by lia,by lia,by lia,by lia,λx m _=>(b,x,rfl,rfl,by rw[sizeLine_eq];lia,q _ (by rw[fY];lia)))
 refine(_,rfl,rfl,_,rfl,ug ?_ λ_ G=>(_,rfl,b,rfl,d,_,_,rfl,rfl,_,rfl,bC (λc=>?_) λ_=>G))
 rotate_left
 ·have c:(0:Int)<(b.length:Int):=of_decide_eq_true c;have C:=af4 (n / 512) (show (b.length:Int)≠0 by lia);have B:=afX (n / 512) c;exists _,rfl,_,_,rfl,rfl,(by decide,by decide),_,rfl,b,rfl,d,_,_,rfl,rfl,(by show (0:Int)<(b.length:Int);lia);obtain⟨j,M⟩:∃j:Nat,n / 512%(b.length:Int)=j:=((n / 512%(b.length:Int)).toNat,by lia);show fJ 5 (.int (n / 512%(b.length:Int))) _ _ _;rw[M]at C B ⊢;have Y:=gr b none (some (j:Int));have X:=gr b (some ((j:Int)+1)) none;exact(_,rfl,_,rfl,_,rfl,b,rfl,d,_,rfl,n,26,0,1,rfl,k,by lia,by decide,by decide,by decide,λx m _=>(_,x,rfl,rfl,by rw[sizeLine_eq];lia,_,rfl,_,rfl,_,_,rfl,rfl,_,rfl,b,rfl,d,_,_,rfl,rfl,by rw[fY,sizeLine_eq];lia,q _ (by rw[fY,fY];lia)))
 refine(_,rfl,rfl,_,rfl,bC (λ_=>?_) λ_=>?_)
 ·have t:n / 128%4=(((n / 128%4).toNat:Nat):Int):=by lia
  exact(_,rfl,_,rfl,_,_,rfl,rfl,(by decide,by decide),_,_,rfl,rfl,(by show (0:Int)<4;decide),n,26,0,(n / 128%4).toNat,by rw[<-t];rfl,k,by lia,by lia,by lia,by lia,λx m _=>q _ (by lia))
 exact(_,rfl,q _ (by lia))
theorem uV{H:Hp}:∀c:List Str,lg K H (c.map V.str) (c.map PyData.str)
 | []=>.nil
 | b::r=>.cons (.str b) (uV r)
theorem Gx{w:Str}(h:T3 w):PyData.strOk w=true:=by
 unfold PyData.strOk;rw[Array.all_eq_true'];intro x b;have:=(h.2 x (by simpa using b)).2;exact decide_eq_true (by lia)
theorem rY:∀b:List Str,(∀w∈b,T3 w)->PyData.canLayAll0 (b.map PyData.str)=true
 | [],_=>rfl
 | v::r,h=>by
  rw[aaA];simp only[PyData.canLayAll0,PyData.canLay0,rY r λw c=>h w (aaL _ c),Gx (h v aa5),Bool.and_self]
inductive Kg(K:PySem.W.Frag)(vs:List V)(H:Hp)(Q:VK)(_e1:XK):Prop
 | mk (p:Addr) (ss:List Int) (size:Int) (_:vs=[.ref p,.int size]) (_:My K H p (ss.map V.int)) (_:(∀x∈ss,0<=x/\x<size)) (_:Q (.bl true) H)
theorem zj(T:Tx K mg a):aV P w K mg base S6 2 a.adI a.ac4 ["_law_seen","_law_size"] (Kg K):=by
 refine T.adS.F.S9 oX λt A g s H u Q E n h=>?_;obtain⟨p,l,b,rfl,j,m,q⟩:=h;refine(_,(aj (bI PassesOwn.never rfl (bO (pv 0)) (aR 2 oX.nd) (aq (aX (PW.pt (nu (nG (zO (aF T.Zg (pG T) n (aa (pv 2) ak)))) (nu (aG jH (pv 2) ao) (kI (aG z8 (pv 2) (pv 1)))))) (aq (aD nq)) aL)))
  (aq (aD nq))),?_)
 exists _,rfl,p,rfl,(_,j);refine b7 (xs:=l.map V.int) (λi d e=>(∃k,d=[some (.ref p),some (.int b),k])/\e=H) ((none,rfl),rfl) ?_ ?_ ?_
 ·rintro i d e _ ⟨_,rfl⟩;exact j
 ·rintro i x d e f ⟨⟨k,rfl⟩,rfl⟩;obtain⟨c,o,rfl⟩:=int_at f;have r:=m c (aag o);refine(_,rfl,c,rfl,true,rfl,dN ?_);refine(_,rfl,_,_,rfl,rfl,_,rfl,bC (λz=>?_) λ_=>?_)
  ·have z:=of_decide_eq_true z;lia
  refine(_,rfl,_,rfl,_,_,rfl,rfl,_,rfl,bC (λz=>?_) λ_=>?_)
  ·have z:=of_decide_eq_true z;lia
  exact((_,rfl),rfl)
 ·rintro d e ⟨⟨k,rfl⟩,rfl⟩;exact q
theorem Store.sa{r t :Addr}(St:Store H r t C N ps)(hW:∀w∈N,T3 w)(hl:ps.length<=2001):∃q:SR,q.t=t/\q.ws=N/\q.ts=ps/\H C=some (.lst q.al)/\q.al.length<=3000 /\
  ∀(l:Hp) (v u f sn o:Addr) (cs:List Addr),Kp H l->l sn=some (.lst [])->l o=some (.lst q.al)->sn≠o->iH l f bU cs [.ref sn,.ref o]->TabAt l v (cj bQ) aY.qual->TabAt l u (cj bF) aQ.qual->u≠v->SA l v u { q with f:=f,sn:=sn,bl:=o } []:=by
 obtain⟨xr,⟨Q,O,M,ah,U,b1,r2,b2,Y,c2,Wd,b3,p,S,z,W,h,X,I,m,j,g,Wy⟩,D⟩:=St;have G:=D.good;have y:(ps.map λt:Str=>((t.length:Nat):Int)).length=ps.length:=aaa ..;have x:=m6 G;rw[y]at x;refine((t,Q,O,M,ah,U,Y,c2,Wd,0,0,0,p,S,z,W,h,X,N,ps),rfl,rfl,rfl,Wy,?_,λl v u f sn o cs i Z hb T F L J R=>?_)
 ·have E:=j.size (by rw[aaa,abU];lia);rw[aaa]at E;have h2:(bD (brk (ps.map λt:Str=>((t.length:Nat):Int)) 0)).length<=126:=by rw[bA,x];unfold many;lia
  have h3:(bD (ps.map (oK N))).length<=63:=by rw[bA,aaa];unfold many;lia
  have e:∀A B d:List Int,A.length<=126->B.length<=1600->d.length<=63->((A++B++d).map V.int).length<=3000:=λA B d a b c=>by
   rw[aaa,aaf,aaf];lia
  exact e _ _ _ h2 E h3
 ·refine(i _ _ I nofun nofun,((((i _ _ m.tab.tup nofun nofun,i _ _ m.tab.Uo nofun nofun,m.tab.few),(.inl (rfl,sn,cs,rfl,F),λa0 e=>?_,hb,by decide),?_,?_,λn s=>?_),i _ _ m.Vu nofun nofun,m.low,m.sz,m.heap,L),by decide,rfl,G),i _ _ j.t nofun nofun,i _ _ j.k nofun nofun,i _ _ j.c nofun nofun,j.ls.to λb z e=>i _ _ e nofun nofun,j.kd,j.sz,j.h12,(i _ _ g.tup nofun nofun,i _ _ g.Uo nofun nofun,g.few),(rfl,sn,cs,rfl,F),J,D,hW,hl,by decide,R)
  ·cases e;exact(Z,T)
  ·exact nR _ _
  ·show (brk (ps.map λt:Str=>((t.length:Nat):Int)) 0).length<=4096;rw[x];lia
  ·show (List.map V.int (_++_++_))[0+n]?=_;have s:n<many (brk (ps.map λt:Str=>((t.length:Nat):Int)) 0).length:=s;rw[agc,aah,abm,aaw (by rw[bA];exact s)];exact congrArg (aiW V.int) (mX s)
structure tW(H6 H':Hp)(Pt Ph Pl:Addr):Prop where
 ob:∀b o,H6 b=some o->(∀ps,o ≠ .Tf ps)->H' b=some o
 tt:TabAt H' Pt (cj bF) aQ.qual
 th:TabAt H' Ph (cj bQ) aY.qual
 tl:TabAt H' Pl (xP dU) bU.qual
theorem tW.same{g H' i:Hp}{c f d:Addr}(h:tW g H' c f d)(s:aO H' i):tW g i c f d:=(λb o e n=>s _ _ (h.ob b o e n),TabAt.same h.tt s,TabAt.same h.th s,TabAt.same h.tl s)
theorem tW.made{d:Hp}(h:tW H H' f C S)(j:f≠S)(i:C≠S)(c:vG S H' d)(g:TabAt d S (xP dU) bU.qual):tW H d f C S:=
 (λb o e n=>c b o (h.ob b o e n) (TabAt.ne h.tl (h.ob b o e n) n),TabAt.keep h.tt h.tl j λb o e n _=>c b o e n,TabAt.keep h.th h.tl i λb o e n _=>c b o e n,g)
theorem tW.did{l:Hp}{p:SR}{k:Nat}(h:tW H H' f C S)(y:f≠S)(v:C≠S)(A:∀b o,H b=some o->(∀ps,o ≠ .Tf ps)->b≠p.sn)(x:SA H' C f p d)(c:gk H' l C f p k d M):tW H l f C S:=by
 exists λb o e n=>c.kp b o (h.ob b o e n) (TabAt.ne h.th (h.ob b o e n) n) (TabAt.ne h.tt (h.ob b o e n) n) (A b o e n),c.tabT,c.tab;obtain⟨ps,j,r,i⟩:=h.tl;exists ps,c.kp _ _ j v.symm y.symm (λz=>by rw[z,x.sn.1]at j;cases j),r;rcases i with i|⟨B,u,s,t,q,g,m⟩
 ·exact .inl i
 ·exact .inr (B,u,s,t,q,c.kp _ _ g (TabAt.ne h.th g nofun) (TabAt.ne h.tt g nofun) (λz=>by rw[z,x.sn.1]at g;cases g),m)
theorem tW.fresh{H':Hp}{sn:Addr}(h:tW H H' f C S)(c:H' sn=none):∀b o,H b=some o->(∀ps,o ≠ .Tf ps)->b≠sn:=λb o e n=>aJ (h.ob b o e n) c
theorem Jq{K:PySem.W.Frag}{a:Addr}{xs:List V}{c:L2.St}{tt:TT}(R:V->Prop)(o:My K H a xs)(r:xs.length<sizeLine)
  (h:∀(x:V) (H':Hp) (Q:Bool->Hp->Prop),Q true H'->tt (some x::c) H' Q)(p:∀(x:V) (H':Hp) (Q:VK),x∈xs->aO H H'->(∀y,R y->Q y H')->ta (some x::c) H' Q)
  (q:∀D ys,H D=none->ys.length=xs.length->(∀y∈ys,R y)->B D (upd H D (.lst ys))):j7 (Vx K a) c tt ta B H:=by
 intro D f;exists λi m ys l=>m=xs.length - i/\i<=xs.length/\ys.length=i/\(∀y∈ys,R y)/\l=upd H D (.lst ys),(_,rfl,aaK _,rfl,nofun,rfl);rintro i m ys l ⟨rfl,s,rfl,k,rfl⟩;have g:=(az f (.lst ys)).seq o;by_cases b:ys.length<xs.length
 ·have j:=aad b;refine .inr ((_,_,g,j),λv t y=>?_);obtain⟨rfl,y⟩:=y;have e:=y _ g;rw[j]at e;cases e;refine h _ _ _ ?_;rw[if_pos rfl];refine p _ _ _ (abX b) (az f _) λy n=>(au,by lia,xs.length - (ys.length+1),by lia,rfl,b,by rw[aaf];rfl,λz d=>?_,?_)
  ·rcases abn.mp d with d|d
   ·exact k z d
   ·rw[aaj.mp d];exact n
  ·rw[oH]
 ·have e:ys.length=xs.length:=by lia
  exact .inl ((_,g,ahd e.symm),q D ys f e k)
inductive ZR(K:PySem.W.Frag)(Pt:Addr)(Ph:Addr)(Pl:Addr)(vs:List V)(H:Hp)(Q:VK)(_e1:XK):Prop
 | mk (s:Addr) (ns:List Int) (_:vs=[.ref s]) (_:My K H s (ns.map V.int)) (_:ns.length<=63) (_:TabAt H Pt (cj bF) aQ.qual) (_:TabAt H Ph (cj bQ) aY.qual) (_:TabAt H Pl (xP dU) bU.qual) (_:∀H',Q (.bl true) H')
theorem Qj(T:Tx K mg a)(B:Bs mg base a):aV P w K mg base S6 14 a.afK a.afz ["_law_script"] (ZR K a.TJ a.Tr a.UV):=by
 refine T.afO.F.S9 lU λd1 A c1 s H vs Q E n h=>?_;obtain⟨sa,D,rfl,hS,hl,tt,th,tl,q⟩:=h;refine(_,(aj (q9 (i:=1) lU.nd rfl (ahs rfl) (aF T.adR (zH T) n (aa (pv 0) ak)))
  (aj (KY (aF T.ade (wH T) n (aa (cI kj rfl T.W6 Tw.ph (aa (pv 1) ak)) ak)) (lr rfl (bV (aR 2 lU.nd) (bV (aR 3 lU.nd) ji))))
  (aj (aA 4 lU.nd (aF T.adT (zG T) n (aa (pv 1) ak)))
  (aj (bI PassesOwn.never rfl (bO (aB mC (cX (aa nC ak)) (oR rfl (cH.one (j:=1) rfl (agG rfl) rfl rfl (agG rfl)) (bO (cC pP (pv 0) (cO (lC jc ao)) dB)) (λ_ _ _ _=>fU) (λ_ _ _ _=>(aF T.aes (An T) n (aa (pv 0) (aa (pv 1) ak))))))) (aR 5 lU.nd) (aj (aA 6 lU.nd (cX ak))
  (aj (aA 7 lU.nd (aF T.ae1 (FQ T B) n (aa (pv 2) (aa (aF T.aet (Al T B) n (aa (cI kj rfl T.W6 Tw.ph (aa (pv 3) ak)) (aa (pv 6) ak))) (aa (pv 5) ak)))))
  (aj (aX (nG (zO (aF T.adS (zj T) n (aa (pv 6) (aa (aK aN rfl T.Th Tw.bh (aa (pv 3) ak)) ak))))) (aq (aD nq)) aL)
  (aq (aX (aG oU (pv 5) (pv 4) (by with_unfolding_all rfl)) (aq (aX (gB (ue (pv 7))) (aq (aD nq)) aL)) (aq (aX (PW.pt (nu (nG (zO (aF T.Zg (pG T) n (aa (pv 7) ak)))) (kI (aG yf (pv 7) (gR PySem.F.plainAttrs_list PySem.F.slot_list_index PySem.F.type_list_index (Jc n.units) (pv 4) (aa (pv 5) ak)))))) (aq (aD nq)) aL))))))))
  (aq (aD nq)))))),?_)
 refine(_,rfl,sa,D,rfl,hS,λwl L H1 c7 g m N nd c2 hm=>?_);refine(_,rfl,wl,_,rfl,.inl (My.of m),λhn b9=>?_);have s2:=az b9 (.lst (L.map V.str));have xh:upd H1 hn (.lst (L.map V.str)) hn=some (.lst (L.map V.str)):=au
 replace m:=s2 _ _ m
 replace g:=g.trans s2
 generalize upd H1 hn (.lst (L.map V.str))=H2 at *;refine(hn,L,rfl,My.of xh,N,nd,by lia,by lia,λr t b0 ts H3 Z St c9=>?_)
 replace m:=Z _ _ m
 replace g:=g.trans Z
 exists r,_,rfl,S7.of St.r,rfl,_,_,rfl,_,_,rfl,rfl;refine(_,rfl,wl,L,rfl,My.of m,N,by lia,by lia,λtx c4 H4 c8 Up X c0 _=>?_);have Ye:=St.begs.uniq c0;subst Ye;obtain⟨p,rfl,rfl,rfl,S,d0,mk⟩:=St.sa N (by lia)
 replace S:=Up _ _ S
 replace m:=Up _ _ m
 replace g:=g.trans Up
 refine((by show 1<=sizeLine;decide),λM a4=>?_)
 have u1:=az a4 (.lst [V.str ""])
 refine(_,rfl,_,rfl,_,rfl,sa,_,rfl,(g.trans u1).seq hS,λc hc=>(c,rfl,(_,My.of au),?_));have u2:=az hc (.lst (fB (D.map V.int) (some (-4)) none))
 have Y:=u2 _ _ (au:upd H4 M (.lst [V.str ""]) M=_)
 have cl:(fB (D.map V.int) (some (-4)) none).length<=63:=by
  have:=sr (D.map V.int) (some (-4)) none;rw[aaa]at this;lia
 refine Jq (λy=>∃x:Str,y=.str x/\x.length<=145) (My.of au) (by rw[sizeLine_eq];lia) (λ_ _ _ q=>q) (λy C Q' hy sm qq=>?_) λl2 k a3 a8 a7=>?_
 ·obtain⟨i,hi⟩:=abk hy;obtain⟨z,rfl⟩:=Gv hi;exact(_,rfl,_,rfl,z,wl,p.ws,rfl,My.of (sm _ _ (u2 _ _ (u1 _ _ m))),N,λx I=>qq _ (x,rfl,I))
 have u3:=az a3 (.lst k);refine(M,l2,_,_,rfl,rfl,u3 _ _ Y,au,by rw[sizeLine_eq,a8];show 1+_<=_;lia,λW a2=>(W,rfl,(_,My.of au),?_))
 have u4:=az a2 (.lst ([V.str ""]++k))
 have U:=((u1.trans u2).trans u3).trans u4
 have a6:upd (upd (upd (upd H4 M (.lst [V.str ""])) c (.lst (fB (D.map V.int) (some (-4)) none))) l2 (.lst k)) W (.lst ([V.str ""]++k)) W=some (.lst (V.str ""::k)):=au
 replace S:=U _ _ S
 replace X:=U _ _ X
 replace g:=g.trans U
 have k4:Kp H3 (upd (upd (upd (upd H4 M (.lst [V.str ""])) c (.lst (fB (D.map V.int) (some (-4)) none))) l2 (.lst k)) W (.lst ([V.str ""]++k))):=Kp.of (Up.trans U)
 clear u1 u2 u3 u4 U Y hc a4 a3 a2
 generalize upd (upd (upd (upd H4 M (.lst [V.str ""])) c (.lst (fB (D.map V.int) (some (-4)) none))) l2 (.lst k)) W (.lst ([V.str ""]++k))=H6 at *
 have a9:∀x∈(V.str ""::k),∃u:Str,x=.str u/\u.length<=145:=λx I=>by
  rcases aaH.mp I with rfl|I
  ·exact("",rfl,by decide)
  ·exact a7 x I
 generalize c6:(V.str ""::k)=xs at *
 refine b7 (xs:=xs) (λi σ C=>(∃k5 k6 k7,σ=[some (.ref sa),some (.ref wl),some (.ref p.t),some (.ref b0),some (.ref tx),k5,k6,k7])/\tW H6 C a.TJ a.Tr a.UV) ((_,_,_,rfl),λ_ _ e _=>e,TabAt.same tt g,TabAt.same th g,TabAt.same tl g) ?_ ?_ ?_
 ·rintro i σ C _ ⟨_,e⟩;exact My.of (e.ob _ _ a6 nofun)
 ·rintro i x σ C I ⟨⟨k5,k6,k7,rfl⟩,e⟩;obtain⟨u,rfl,hu⟩:=a9 x (aag I);refine((by show 0<=sizeLine;decide),λG a1=>?_);have v1:=az a1 (.lst []);have e1:=e.same v1;have fr:=e.fresh a1;have J:upd C G (.lst []) G=some (.lst []):=au;generalize upd C G (.lst [])=H7 at *;refine(_,rfl,_,rfl,b0,_,rfl,.inl (My.of (e1.ob _ _ S nofun)),λR U0=>?_);have v2:=az U0 (.lst p.al);have e2:=e1.same v2;have W8:G≠R:=aJ J U0
  replace J:=v2 _ _ J
  have Wy:upd H7 R (.lst p.al) R=some (.lst p.al):=au;generalize upd H7 R (.lst p.al)=H8 at *;refine(_,rfl,R,G,rfl,e2.tl,λf cs H9 hf ZS a5 ca=>?_);have e3:=e2.made B.aat B.aau ZS a5
  replace J:=ZS _ _ J (TabAt.ne e2.tl J nofun)
  replace Wy:=ZS _ _ Wy (TabAt.ne e2.tl Wy nofun)
  have x:=mk H9 a.Tr a.TJ f G R cs (λb o h n1 n2=>e3.ob _ _ (k4 b o h n1 n2) n1) J Wy W8 ca e3.th e3.tt B.abj;refine(_,rfl,_,[],u,rfl,x,by decide,by lia,λv c5 d2 l d=>?_);have O:=e3.did B.aat B.aau fr x d;obtain⟨c3,a0,_,b4⟩:=d.wr;rw[ag1]at a0;subst a0;refine(_,rfl,_,rfl,b0,_,rfl,.inl (My.of (O.ob _ _ S nofun)),G,_,_,rfl,My.of d.seen,b4,true,rfl,dN ?_);exists _,rfl,_,rfl,tx,_,rfl,.inl (My.of (O.ob _ _ X nofun)),rfl,qm _,_,rfl;refine bC (λz=>?_) λz=>?_
  ·have z:(!inV (.str u) (p.ts.map V.str))=true:=z;rw[ud]at z;rcases l with ⟨rfl,l⟩|⟨i,rfl,l⟩
   ·exact(_,rfl,_,rfl,dN ((_,_,_,rfl),O))
   ·rw[decide_eq_true (aag l)]at z;cases z
  ·have z:¬(!inV (.str u) (p.ts.map V.str))=true:=z;rw[ud]at z;rcases l with ⟨rfl,l⟩|⟨i,rfl,l⟩
   ·rw[decide_eq_false l]at z;exact absurd rfl z
   ·refine(_,rfl,(i:Int),rfl,true,rfl,dN ?_);exists _,rfl,_,rfl,.inl (rfl,_,My.of (O.ob _ _ X nofun)),_,rfl,tx,_,_,p.ts.map PyData.str,.str u,i,rfl,rfl,O.ob _ _ X nofun,uV _,.str u,rY _ ?_,?_,?_,?_,?_
    ·exact λw hw=>St.begs.low N hw
    ·exact Gx (St.begs.low N (aag l))
    ·simp[PyData.depth]
    ·exact(.str u,by rw[aah,l];rfl,by simp[PyData.eqv])
    ·intro j d hj hd;rw[aah]at hd;obtain⟨y,hy,rfl⟩:=abu.mp hd;have:=St.begs.up;have b1:y≠u:=λz=>by
      obtain⟨b3,b2⟩:=aab.mp hy;obtain⟨b6,b5⟩:=aab.mp l;have:=abR.mp St.begs.up j i b3 b6 hj;rw[b2,b5,z]at this;exact eE _ this
     simp only[PyData.eqv];exact beq_eq_false_iff_ne.mpr b1
    ·exact(rfl,_,rfl,xV rfl ((_,_,_,rfl),O))
 ·rintro σ C ⟨_,_⟩;exact q C
theorem Hw{s :Addr}(c:My K H s (d.map V.int))(b:d.length<=63)(h:H f=some (.Tf #[]))(g:H C=some (.Tf #[]))(e:H S=some (.Tf #[])):ZR K f C S [.ref s] H (λv _=>v=.bl true) λ_ _ _=>False:=
 (s,d,rfl,c,b,tab0 h,tab0 g,tab0 e,λ_=>rfl)
end
theorem Qo{l:PySem.W.OpenLaw}{w:World}{mg:Str->Option Value}{f5 f6 f7 f8 f9 q3 a1 q2 q1 q0 p9 p5 p4 p3 p2 p1 p0 o3 o2 o1 o0 n9 n7 n5 n4 n3 n2 n1 n0 m4 m3 m2 ZV m1 m0 l9 l8 l7 l6 l5 l4 l3 l2 l1 l0 k9 k8 k7 k6 k5 k4 k3 k2 k1 k0 j3 j2 j1 i9 i8 i7 i6 i5 i4 i3 i2 i1 i0 h9 h8 h7 h6 h5 h4 h3 h2 ZW h1 h0 g9:Addr}{e0 e1 e2 e3 e4 e5 e6 e7 e8 e9 y9 y8 y7 y6 y5 y4 y3 y2 y1 y0 x9 x8 x7 x6 x5 x4 x3 x2 x1 x0 w9 w8 w7 w4 w3 w2 w1 w0 v3 v2 v1 v0 u8 u7 u4 u3 u2 u1 t9 t8 t7 t6 t5 t4 t3 t2 t1 t0 s9 s8 s7 s6 s5 s4 s3 s2 s1 s0 r9 r8 r7 r6 r5 r4 r3 r2 r1 r0 q7 q6 q5 q4:FuncData}{c0 g6 b9 g5 b6 g4:Option Addr}{b2 b1 b0:Array (Option Value)}{c3 c7 g0 b5 g3 c2 c6 c9 b4 g2 c1 c5 c8 b3 g1:Value}{o O p k n j m:Tok}{P:Addr}{VH TJ VJ Tr VL UV:Addr}{u x J:Value}{y A L:Option Addr}{b i:Array Value}{r t E:Array (Option Value)}{mb:Str->Option Value}{c4:ExcName->Option Value}(X:K.In h')(TT:PyProof.Rows.Top prog N c4 mg mb h')(g8:mg "law" = some (.ref f))
  (d0:FI K "packed" uG C e0)
  (d1:FI K "check_row" lZ S e1)
  (d2:FI K "block_of" nJ c e2)
  (d3:FI K "bit_in" u0 dx e3)
  (d4:FI K "bits_of" qw Pt e4)
  (d5:FI K "ones_in" rJ f5 e5)
  (d6:FI K "one_in" vK f6 e6)
  (d7:FI K "nets_of" qy f7 e7)
  (d8:FI K "low_in" uB f8 e8)
  (d9:FI K "first_low_in" jd f9 e9)
  (G2:FI K "last_low_in" jC q3 y9)
  (a6:PySem.W.nsIn K mainGlobals "look_from" = some (some (.ref a1)))(a4:K.lookup a1=some (c3,c0,.func (PySem.W.fnOf "look_from" "look_from" (ν cF) (μ cF) (δ cF) .none c7 g0 b5 g6 (.ref VH) g3),b2))(ZX:PySem.W.codeIn K (.ref VH) "look_from" = true)(g7:PySem.W.keepIn K (.ref a1)=true)
  (ZZ:K.lookup VH=some (u,y,.fields I,r))(Z0:I[11]?=some (.ref TJ))(Xg:∃d,(PyProof.Rows.recsOf prog).find? (λe=>e.name == ("look_from" : Str))=some d)
  (G1:FI K "heap_of" rC q2 y8)
  (G0:FI K "size_of" qZ q1 y7)
  (F9:FI K "lesser_of" lB q0 y6)
  (F8:FI K "first_at_most" gH p9 y5)
  (F7:FI K "last_at_most" iK p5 y4)
  (F6:FI K "place_beneath" gQ p4 y3)
  (F5:FI K "check_stretch" gG p3 y2)
  (F4:FI K "cover" zR p2 y1)
  (Z1:FI K "kept_row" nT p1 y0)
  (F3:FI K "ahead_of" n8 p0 x9)
  (F2:FI K "check_place" jn o3 x8)
  (F1:FI K "bit_at" uX o2 x7)
  (F0:FI K "ones_at" qJ o1 x6)
  (E9:FI K "noughts_at" jZ o0 x5)
  (E8:FI K "one_place" my n9 x4)
  (E7:FI K "check_nth" mj n7 x3)
  (E6:FI K "last_no_greater" fc n5 x2)
  (E5:FI K "is_tree" q8 n4 x1)
  (E4:FI K "check_brackets" fQ n3 x0)
  (E3:FI K "kept_brackets" gJ n2 w9)
  (E2:FI K "low_of" vB n1 w8)
  (E1:FI K "base_of" qR n0 w7)
  (D9:FI K "start_within" iB m4 w4)
  (D8:FI K "end_within" jW m3 w3)
  (D7:FI K "block_count" jm m2 w2)
  (a5:PySem.W.nsIn K mainGlobals "heap_look" = some (some (.ref ZV)))(a3:K.lookup ZV=some (c2,b9,.func (PySem.W.fnOf "heap_look" "heap_look" (ν cz) (μ cz) (δ cz) .none c6 c9 b4 g5 (.ref VJ) g2),b1))(Z2:PySem.W.codeIn K (.ref VJ) "heap_look" = true)(Z3:PySem.W.keepIn K (.ref ZV)=true)
  (Z4:K.lookup VJ=some (x,A,.fields b,t))(Z5:b[11]?=some (.ref Tr))(Xh:∃d,(PyProof.Rows.recsOf prog).find? (λe=>e.name == ("heap_look" : Str))=some d)
  (D6:FI K "height" uP m1 w1)
  (D5:FI K "low_behind" kh m0 w0)
  (D4:FI K "first_within" iJ l9 v3)
  (D3:FI K "place_of_bit" iT l8 v2)
  (D2:FI K "low_ahead" lQ l7 v1)
  (D1:FI K "last_low_upto" gO l6 v0)
  (D0:FI K "last_within" jB l5 u8)
  (C9:FI K "check_bracket" gD l4 u7)
  (Z6:FI K "closing" qY l3 u4)
  (C8:FI K "opening" rG l2 u3)
  (C7:FI K "check_depths" iy l1 u2)
  (C6:FI K "brackets_of" jq l0 u1)
  (C5:FI K "kept_tree" lE k9 t9)
  (C4:FI K "check_signs" jt k8 t8)
  (C3:FI K "kept_signs" j4 k7 t7)
  (C2:FI K "ranks_among" jy k6 t6)
  (C1:FI K "level_count" jz k5 t5)
  (C0:FI K "level_rows" j6 k4 t4)
  (B9:FI K "parted" vo k3 t3)
  (B8:FI K "levels_of" lX k2 t2)
  (B7:FI K "place_below" ju k1 t1)
  (B6:FI K "nought_count" iZ k0 t0)
  (B5:FI K "sign_at" qx j3 s9)
  (B4:FI K "node_count" jV j2 s8)
  (B3:FI K "check_node" jX j1 s7)
  (B2:FI K "node_at" qb i9 s6)
  (B1:FI K "place_of" n6 i8 s5)
  (B0:FI K "first_of" nZ i7 s4)
  (A9:FI K "younger_of" j5 i6 s3)
  (A8:FI K "check_words" jl i5 s2)
  (A7:FI K "beginnings_of" gA i4 s1)
  (A6:FI K "parts_of" oh i3 s0)
  (A5:FI K "kept_store" j9 i2 r9)
  (A4:FI K "blocks_of_tree" fK i1 r8)
  (A3:FI K "letter_of" lV i0 r7)
  (A2:FI K "young_from" jO h9 r6)
  (A1:FI K "line_of" qT h8 r5)
  (A0:FI K "node_of" rK h7 r4)
  (z6:FI K "_law_whole" lY h6 r3)
  (z5:FI K "_law_spelt" lO h5 r2)
  (z4:FI K "_law_word" ou h4 r1)
  (z3:FI K "_law_words" lw h3 r0)
  (z2:FI K "_law_text" nF h2 q7)
  (Yi:PySem.W.nsIn K mainGlobals "_law_look" = some (some (.ref ZW)))(Yj:K.lookup ZW=some (c1,b6,.func (PySem.W.fnOf "_law_look" "_law_look" (ν cQ) (μ cQ) (δ cQ) .none c5 c8 b3 g4 (.ref VL) g1),b0))(Z7:PySem.W.codeIn K (.ref VL) "_law_look" = true)(Z8:PySem.W.keepIn K (.ref ZW)=true)
  (Z9:K.lookup VL=some (J,L,.fields i,E))(L5:i[11]?=some (.ref UV))(Xi:∃d,(PyProof.Rows.recsOf prog).find? (λe=>e.name == ("_law_look" : Str))=some d)
  (z1:FI K "_law_there" lG h1 q6)
  (z0:FI K "_law_texts" lz h0 q5)
  (a2:FI K "law" Kw g9 q4)
  (H1:PySem.W.nsIn K mainGlobals "bool" = some none)
  (L7:PySem.W.nsIn K mainGlobals "enumerate" = some none)
  (I0:PySem.W.nsIn K mainGlobals "int" = some none)
  (L4:PySem.W.nsIn K mainGlobals "isinstance" = some none)
  (H9:PySem.W.nsIn K mainGlobals "len" = some none)
  (H0:PySem.W.nsIn K mainGlobals "list" = some none)
  (H8:PySem.W.nsIn K mainGlobals "max" = some none)
  (H7:PySem.W.nsIn K mainGlobals "min" = some none)
  (H3:PySem.W.nsIn K mainGlobals "range" = some none)
  (L0:PySem.W.nsIn K mainGlobals "reversed" = some none)
  (H6:PySem.W.nsIn K mainGlobals "set" = some none)
  (I1:PySem.W.nsIn K mainGlobals "sorted" = some none)
  (H5:PySem.W.nsIn K mainGlobals "sum" = some none)
  (H2:PySem.W.nsIn K mainGlobals "tuple" = some none)
  (H4:PySem.W.nsIn K mainGlobals "zip" = some none)
  (L3:PySem.W.nsIn K mainGlobals "BLOCK_BITS" = some (some (.int 32 o)))
  (I4:PySem.W.nsIn K mainGlobals "LETTERS" = some (some (.str "abcdefghijklmnopqrstuvwxyz" O)))
  (L6:PySem.W.nsIn K mainGlobals "MOST_BITS" = some (some (.int 4096 p)))
  (M3:PySem.W.nsIn K mainGlobals "MOST_LETTERS" = some (some (.int 40 k)))
  (L2:PySem.W.nsIn K mainGlobals "MOST_NODES" = some (some (.int 2048 n)))
  (M2:PySem.W.nsIn K mainGlobals "MOST_NUMBERS" = some (some (.int 4096 j)))
  (L1:PySem.W.nsIn K mainGlobals "MOST_SIGNS" = some (some (.int 4096 m)))
  (Yk:PySem.W.nsIn K mainGlobals "NoNode" = some (some (.ref P)))
  (I3:PySem.W.excIn K P Xv "ValueError.__new__" = true)
  (I2:PySem.W.hasDictIn K P=true)
  (K2:PySem.W.findIn K (.ref P) "__getattribute__" = some (some (.builtin "BaseException.__getattribute__")))
  (K0:PySem.W.findIn K (.ref P) "__getattr__" = some none)
  (I9:PySem.W.findIn K (.ref P) "__class__" = some (some (.builtin "object.__class__")))
  (I8:PySem.W.specialIn K (.builtin "object.__class__") "__get__" = some (some (.builtin "getset_descriptor.__get__")))
  (I7:PySem.W.takesIn K (.builtin "object.__class__")=some true)
  (I6:PySem.W.mroIn K P (.type "object")=some true)
  (I5:PySem.W.mroIn K P (.type "BaseException")=some true)
  (X6:PySem.W.kitOne K (.ref P) (.ref P)=some true)
  (X7:PySem.W.kitOne K (.ref P) (.type "ValueError")=some true)
  (nt:PySem.W.noTabs K=true)
  (M0:TJ≠Tr)
  (L9:TJ≠UV)
  (L8:Tr≠UV):
  ∃(fd:FuncData) (R:List (Addr×Addr)) (sp:Sp),(∀(s:Shared) (v:Value),BindsTo s fd ([v],[]) [(pq ("_law_script") v)])/\PySem.W.TabsAt R h'/\PySem.W.noTabs K=true/\(∀base:Heap,K.In base->base.Ns mainGlobals mg->BMain mg base->(∀q∈R,PySem.W.CodeHd base q.1 q.2)->aV l.prog w K mg base S6 14 f fd ["_law_script"] sp) /\
   ∀(H:Hp) (a:Addr) (ns:List Int),ns.length<=63->My K H a (ns.map V.int)->(∀q∈R,H q.2=some (.Tf #[]))->sp [.ref a] H (λv _=>v=.bl true) λ_ _ _=>False:=by
 have G:=TT.g;have e:=g8.symm.trans (PySem.W.mg_of X G a2.a);cases e;obtain⟨_,_,_,_,_,_,_,_,_,rfl,_,_⟩:=a2.F.ex;have a9:=zz (st:=cF) a4 ZX g7
 have N0:Df K mg "look_from" cF ["look","first"] _ _:=(a9,a9.binds (ps:=["look","first"]) λ_ _ _ _ _ _ Q hl=>Kq (C:=λQ=>bindArgs _ (Q,[])=pure (agX (["look","first"]:List Str) Q)) hl (λ_ _=>rfl),PySem.W.mg_of X G a6)
 have a8:=zz (st:=cz) a3 Z2 Z3
 have M5:Df K mg "heap_look" cz ["tables"] _ _:=(a8,a8.binds (ps:=["tables"]) λ_ _ _ _ _ _ Q hl=>Ox (C:=λQ=>bindArgs _ (Q,[])=pure (agX (["tables"]:List Str) Q)) hl (λ_=>rfl),PySem.W.mg_of X G a5)
 have a7:=zz (st:=cQ) Yj Z7 Z8
 have M4:Df K mg "_law_look" cQ ["_law_blocks","_law_seen"] _ _:=(a7,a7.binds (ps:=["_law_blocks","_law_seen"]) λ_ _ _ _ _ _ Q hl=>Kq (C:=λQ=>bindArgs _ (Q,[])=pure (agX (["_law_blocks","_law_seen"]:List Str) Q)) hl (λ_ _=>rfl),PySem.W.mg_of X G Yi)
 have T:Tx K mg (VH,TJ,VJ,Tr,VL,UV,_,_,_,_,_,_,_,_,_,_,_,_,_,_,_,_,_,_,_,_,_,_,_,_,_,_,_,_,_,_,_,_,_,_,_,_,_,_,_,_,_,_,_,_,_,_,_,_,_,_,_,_,_,_,_,_,_,_,_,_,_,_,_,_,_,_,_,_,_,_,_,_,_,_,_,_,_,_,_,_,_,_,_,_,_,_,_,_,_,_,_,_,_,_,_,_,_,_,_,_,_,_,_,_,_,_,_,_,_,_,_,_,_,_,_,_,_,_,_,_,_,_,_,_,_,_,_,_,_,_,_,_,_,_,_,_,_,_,_,_,_,_,_,_,_,_,_,_,_,_,_,_,_,_,_,_,_,_,_,_,_,_,_,_,_,_,_,_,_,_,_,_,_,_,_,_,_,P):=(TF X G d0,TF X G d1,TF X G d2,TY X G d3,TY X G d4,TY X G d5,TY X G d6,TY X G d7,TY X G d8,Vk X G d9,Vk X G G2,N0,TF X G G1,TF X G G0,TY X G F9,Vk X G F8,Vk X G F7,YS X G F6,Ue X G F5,Ue X G F4,TF X G Z1,TF X G F3,TY X G F2,Ue X G F1,Ue X G F0,Ue X G E9,Ue X G E8,TY X G E7,TY X G E6,TF X G E5,TF X G E4,TF X G E3,Ue X G E2,TY X G E1,TY X G D9,TY X G D8,TF X G D7,M5,Ue X G D6,Vk X G D5,YS X G D4,TY X G D3,Vk X G D2,Vk X G D1,YS X G D0,Vk X G C9,Ue X G Z6,Ue X G C8,TF X G C7,TF X G C6,TF X G C5,TF X G C4,TF X G C3,TY X G C2,TF X G C1,TY X G C0,TY X G B9,TY X G B8,Ue X G B7,TF X G B6,Ue X G B5,TF X G B4,TY X G B3,Ue X G B2,Ue X G B1,Ue X G B0,Ue X G A9,TF X G A8,TF X G A7,TF X G A6,TF X G A5,TF X G A4,Ue X G A3,Vk X G A2,Ue X G A1,Ue X G A0,TF X G z6,Vk X G z5,TY X G z4,TF X G z3,TY X G z2,M4,TY X G z1,TF X G z0,TF X G a2,PySem.W.mg_none_of X G H1,PySem.W.mg_none_of X G L7,PySem.W.mg_none_of X G I0,PySem.W.mg_none_of X G L4,PySem.W.mg_none_of X G H9,PySem.W.mg_none_of X G H0,PySem.W.mg_none_of X G H8,PySem.W.mg_none_of X G H7,PySem.W.mg_none_of X G H3,PySem.W.mg_none_of X G L0,PySem.W.mg_none_of X G H6,PySem.W.mg_none_of X G I1,PySem.W.mg_none_of X G H5,PySem.W.mg_none_of X G H2,PySem.W.mg_none_of X G H4,PySem.W.mg_of X G L3,PySem.W.mg_of X G I4,PySem.W.mg_of X G L6,PySem.W.mg_of X G M3,PySem.W.mg_of X G L2,PySem.W.mg_of X G M2,PySem.W.mg_of X G L1,PySem.W.mg_of X G Yk,(PySem.W.mg_of X G Yk,I3),(I2,K2,K0,I9,I8,I7,I6,I5),X6,X7,rfl,rfl,rfl);obtain⟨U,Xg⟩:=Xg;have B:=PySem.W.tab_of TT X Xg (uI a6 a4 rfl ZZ Z0);obtain⟨Y,Xh⟩:=Xh;have D:=PySem.W.tab_of TT X Xh (uI a5 a3 rfl Z4 Z5);obtain⟨Z,Xi⟩:=Xi;have M:=PySem.W.tab_of TT X Xi (uI Yi Yj rfl Z9 L5);exact(_,[(pq VH TJ),(pq VJ Tr),(pq VL UV)],ZR K TJ Tr UV,λs v=>.of_eq rfl,ahp.mpr (B,ahp.mpr (D,ahp.mpr (M,λ_ z=>nomatch z))),nt,λbase _ _ bm hc=>Qj T (bm,hc _ (.head _),hc _ (.tail _ (.head _)),hc _ (.tail _ (.tail _ (.head _))),M0,L9,L8),λH a ns hl hS a0=>Hw hS hl (a0 _ (.head _)) (a0 _ (.tail _ (.head _))) (a0 _ (.tail _ (.tail _ (.head _)))))
end Tw
end
namespace Tp
open PySem
noncomputable section
abbrev O:=Params→Obj
def sq (l:List Str):Nat→List Value:=@List.rec Str (λ_=>Nat→List Value) (λ_=>[]) (λs _ ih t=>Value.str s t::ih (Nat.add t 1)) l
def ap {α:Type} (a b:List α):List α:=@List.rec α (λ_=>List α) b (λx _ r=>x::r) a
def tk {α:Type} (l:List α):Nat→List α:=@List.rec α (λ_=>Nat→List α) (λ_=>[]) (λx _ ih n=>@Nat.rec (λ_=>List α) [] (λm _=>x::ih m) n) l
def mp {α β:Type} (f:α→β) (l:List α):List β:=@List.rec α (λ_=>List β) [] (λx _ r=>f x::r) l
def ov (l:List O):List (Nat×O)→List O:=@List.rec O (λ_=>List (Nat×O)→List O) (λ_=>[]) (λx _ ih ex=>@List.rec (Nat×O) (λ_=>List O) (x::ih []) (λe r _=>@Nat.rec (λ_=>List O) (e.2::ih r) (λg _=>x::ih ((g,e.2)::r)) e.1) ex) l
def ev (l:List Obj):Bool→List Obj:=@List.rec Obj (λ_=>Bool→List Obj) (λ_=>[]) (λx _ ih b=>@Bool.rec (λ_=>List Obj) (ih true) (x::ih false) b) l
def bt (n:Nat):List Obj→PySem.W.BT:=@Nat.rec (λ_=>List Obj→PySem.W.BT) (λ_=>.nil) (λ_ ih l=>@List.rec Obj (λ_=>PySem.W.BT) .nil (λx xs _=>.node x (ih (ev xs true)) (ih (ev xs false))) l) n
def Z (s:Str) (t:Nat) (v:Value) (P:Params):DictEntry:=.mk (PyData.keyHash P s) (.str s t) v
def E (s:Str) (t r:Nat) (P:Params):DictEntry:=.mk (PyData.keyHash P s) (.str s t) (.ref r)
def gd (l:List (Params→DictEntry)) (n:Nat) (P:Params):Obj:=.mk (.type "dict") none (.dict (mp (λe=>e P) l).toArray n) #[]
def tb (l:List (Nat×Nat)) (P:Params):Obj:=.mk .none none (.fields (@List.rec (Nat×Nat) (λ_=>List Value) [] (λx _ r=>.int (Int.ofNat x.1) 0::.int 0 0::.ref x.2::r) l).toArray) #[]
def h0 (x0:Nat) (x1:Nat) (x2:Nat) (x3:Str):List O:=[λP=>(.mk (.type "tuple") none (.seq #[(.ref 24)] 0) #[]),λP=>(.mk (.type "builtin_function_or_method") none (.fields #[(.builtin "type.__prepare__"),(.type "type")]) #[]),λP=>(.mk (.type "dict") none (.dict #[(.mk (PyData.keyHash P "__module__") (.str "__module__" (Nat.add x0 7)) (.str "thinwood.errors" 187)),(.mk (PyData.keyHash P "__qualname__") (.str "__qualname__" (Nat.add x0 9)) (.str x3 (Nat.add x0 8))),(.mk (PyData.keyHash P "__firstlineno__") (.str "__firstlineno__" (Nat.add x0 11)) (.int (Int.ofNat x1) (Nat.add x0 10))),(.mk (PyData.keyHash P "__static_attributes__") (.str "__static_attributes__" (Nat.add x0 12)) (.ref (Nat.add x2 7)))] 4) #[]),λP=>(.mk (.type "tuple") none (.seq #[] 0) #[]),λP=>(.mk .none none (.fields #[]) #[]),λP=>(.mk (.type "code") none (.fields #[(.str x3 (Nat.add x0 2)),(.str x3 (Nat.add x0 3)),(.str "/claim/cut.py" (Nat.add x0 4)),(.int (Int.ofNat x1) 0),(.int 0 0),(.int 0 0),(.int 0 0),(.int 0 0),(.ref (Nat.add x2 3)),(.bool .false),(.int 181 0),(.ref (Nat.add x2 4)),.none,.none,.none,.none,(.int (Int.ofNat (Nat.add x0 5)) 0),(.int (Int.ofNat x1) 0),(.str "/claim/cut.py" (Nat.add x0 6))]) #[]),λP=>(.mk (.type "frame") none .plain #[(some (.ref (Nat.add x2 5))),(some (.ref 3)),(some (.ref (Nat.add x2 2))),none,(some (.str "thinwood.errors" 187)),none,(some (.ref 0))]),λP=>(.mk (.type "tuple") none (.seq #[] 0) #[]),λP=>(.mk (.type "dict") none (.dict #[(.mk (PyData.keyHash P "__module__") (.str "__module__" (Nat.add x0 7)) (.str "thinwood.errors" 187)),(.mk (PyData.keyHash P "__firstlineno__") (.str "__firstlineno__" (Nat.add x0 11)) (.int (Int.ofNat x1) (Nat.add x0 10))),(.mk (PyData.keyHash P "__static_attributes__") (.str "__static_attributes__" (Nat.add x0 12)) (.ref (Nat.add x2 7))),(.mk (PyData.keyHash P "__doc__") (.str "__doc__" (Nat.add x0 13)) .none)] 2) #[]),λP=>(.mk (.type "type") none (.cls (.mk x3 [(.ref 24)] [(.ref (Nat.add x2 9)),(.ref 24),(.type "ValueError"),(.type "Exception"),(.type "BaseException"),(.type "object")] (Nat.add x2 8) x3 .true [] [] .false none .false)) #[(some (.ref x2)),none,(some (.str x3 x0)),(some (.str x3 (Nat.add x0 8))),(some (.builtin "ValueError.__new__")),(some (.bool .true))]),λP=>(.mk (.type "super") none (.fields #[(.ref (Nat.add x2 9)),(.ref (Nat.add x2 9)),(.ref (Nat.add x2 9))]) #[]),λP=>(.mk (.type "builtin_function_or_method") none (.fields #[(.builtin "object.__init_subclass__"),(.ref (Nat.add x2 9))]) #[])]
def h1 (x0:Nat) (x1:Nat) (x2:Nat) (x3:Nat) (x4:Nat) (x5:Nat) (x6:Str) (x7:Str):List O:=[λP=>(.mk (.type "tuple") none (.seq #[] 0) #[]),λP=>(.mk .none none (.fields #[]) #[]),λP=>(.mk .none none (.func (FuncData.mk x6 x6 (L2.ν (Tw.top x0)) (FuncBody.stmts (L2.μ (Tw.top x0))) (L2.δ (Tw.top x0)) 0 [] .none .none .none .none none .none .none 0)) #[]),λP=>(.mk (.type "code") none (.fields #[(.str x6 x1),(.str x6 (Nat.add x1 1)),(.str "/claim/cut.py" (Nat.add x1 2)),(.int (Int.ofNat x2) 0),(.int (Int.ofNat x3) 0),(.int 0 0),(.int 0 0),(.int 3 0),(.ref x4),(.bool .true),(.int 181 0),(.ref (Nat.add x4 1)),.none,.none,.none,(.ref (Nat.add x4 2)),(.int (Int.ofNat (Nat.add x1 3)) 0),(.int (Int.ofNat x2) 0),(.str "/claim/cut.py" (Nat.add x1 4))]) #[]),λP=>(.mk (.type "function") none (.func (FuncData.mk x6 x6 (L2.ν (Tw.top x0)) (FuncBody.stmts (L2.μ (Tw.top x0))) (L2.δ (Tw.top x0)) 3 [] .none .none .none (.str x7 x5) none (.ref (Nat.add x4 3)) .none 0)) #[])]
def h2 (x0:Nat) (x1:Nat) (x2:Nat) (x3:Nat) (x4:Nat) (x5:Nat) (x6:Nat) (x7:List Str) (x8:Str) (x9:Str):List O:=[λP=>(.mk (.type "tuple") none (.seq #[] 0) #[]),λP=>(.mk .none none (.fields #[]) #[]),λP=>(.mk (.type "tuple") none (.seq (sq x7 (Nat.add x0 3)).toArray 0) #[]),λP=>(.mk (.type "tuple") none (.seq #[] 0) #[]),λP=>(.mk .none none (.func (FuncData.mk x8 x8 (L2.ν (Tw.top x1)) (FuncBody.stmts (L2.μ (Tw.top x1))) (L2.δ (Tw.top x1)) 0 [] .none .none .none .none none .none .none 0)) #[]),λP=>(.mk (.type "code") none (.fields #[(.str x8 x0),(.str x8 (Nat.add x0 1)),(.str "/claim/cut.py" (Nat.add x0 2)),(.int (Int.ofNat x2) 0),(.int (Int.ofNat x3) 0),(.int 0 0),(.int 0 0),(.int 3 0),(.ref x4),(.bool .true),(.int 181 0),(.ref (Nat.add x4 1)),.none,(.ref (Nat.add x4 2)),(.ref (Nat.add x4 3)),(.ref (Nat.add x4 4)),(.int (Int.ofNat x5) 0),(.int (Int.ofNat x2) 0),(.str "/claim/cut.py" (Nat.add x5 1))]) #[]),λP=>(.mk (.type "function") none (.func (FuncData.mk x8 x8 (L2.ν (Tw.top x1)) (FuncBody.stmts (L2.μ (Tw.top x1))) (L2.δ (Tw.top x1)) 3 [] .none .none .none (.str x9 x6) none (.ref (Nat.add x4 5)) .none 0)) #[])]
def g0:List (Params→DictEntry):=[Z "__doc__" 166 .none,Z "__package__" 167 .none,Z "__loader__" 168 (.builtin "__main__.__loader__#opaque"),Z "__spec__" 169 .none,E "__annotations__" 170 6,E "__builtins__" 171 4,Z "__file__" 173 (.str "/claim/cut.py" 172),Z "__cached__" 174 .none,E "WoodError" 206 24,E "TooMany" 222 37]
def g1:List (Params→DictEntry):=[E "NoBit" 238 49,E "NoPlace" 254 61,E "NoNode" 270 73,E "NoTree" 286 85,E "NoSign" 302 97,E "NoWord" 318 109,E "Twice" 334 121,Z "BLOCK_BITS" 338 (.int 32 337),Z "MOST_BITS" 340 (.int 4096 339),E "packed" 346 128]
def g2:List (Params→DictEntry):=[E "check_row" 354 135,E "block_of" 363 142,E "bit_in" 371 149,E "bits_of" 377 154,E "ones_in" 385 161,E "one_in" 396 168,E "nets_of" 407 175,E "low_in" 415 182,E "first_low_in" 427 189,E "last_low_in" 440 196]
def g3:List (Params→DictEntry):=[E "look_from" 450 203,Z "MOST_NUMBERS" 454 (.int 4096 453),E "heap_of" 464 210,E "size_of" 472 217,E "lesser_of" 480 224,E "first_at_most" 491 231,E "last_at_most" 502 238,E "place_beneath" 514 245,E "check_stretch" 523 252,E "cover" 537 259]
def g4:List (Params→DictEntry):=[E "kept_row" 547 266,E "ahead_of" 556 273,E "check_place" 564 280,E "bit_at" 573 287,E "ones_at" 586 294,E "noughts_at" 595 301,E "one_place" 606 308,E "check_nth" 614 315,E "last_no_greater" 625 322,E "is_tree" 637 329]
def g5:List (Params→DictEntry):=[E "check_brackets" 644 336,E "kept_brackets" 650 341,E "low_of" 659 348,E "base_of" 667 355,E "start_within" 675 362,E "end_within" 683 369,E "block_count" 690 376,E "heap_look" 698 383,E "height" 707 390,E "low_behind" 720 397]
def g6:List (Params→DictEntry):=[E "first_within" 733 404,E "place_of_bit" 741 411,E "low_ahead" 752 418,E "last_low_upto" 765 425,E "last_within" 777 432,E "check_bracket" 787 439,E "closing" 796 446,E "opening" 805 453,Z "MOST_NODES" 809 (.int 2048 808),E "check_depths" 818 460]
def g7:List (Params→DictEntry):=[E "brackets_of" 828 467,E "kept_tree" 835 474,Z "MOST_SIGNS" 839 (.int 4096 838),E "check_signs" 847 481,E "kept_signs" 859 488,E "ranks_among" 865 493,E "level_count" 872 500,E "level_rows" 878 505,E "parted" 884 510,E "levels_of" 895 517]
def g8:List (Params→DictEntry):=[E "place_below" 906 524,E "nought_count" 913 531,E "sign_at" 926 538,E "node_count" 935 545,E "check_node" 943 552,E "node_at" 952 559,E "place_of" 961 566,E "first_of" 971 573,E "younger_of" 981 580,Z "LETTERS" 985 (.str "abcdefghijklmnopqrstuvwxyz" 984)]
def g9:List (Params→DictEntry):=[Z "MOST_LETTERS" 987 (.int 40 986),E "check_words" 996 587,E "beginnings_of" 1002 592,E "parts_of" 1008 597,E "kept_store" 1019 604,E "blocks_of_tree" 1026 611,E "letter_of" 1035 618,E "young_from" 1046 625,E "line_of" 1058 632,E "node_of" 1068 639]
def g10:List (Params→DictEntry):=[E "_law_whole" 1077 646,E "_law_spelt" 1090 653,E "_law_word" 1102 660,E "_law_words" 1113 667,E "_law_text" 1125 674,E "_law_look" 1136 681,E "_law_there" 1145 688,E "_law_texts" 1155 695,E "law" 1161 700]
def gg:List (Params→DictEntry):=ap g0 (ap g1 (ap g2 (ap g3 (ap g4 (ap g5 (ap g6 (ap g7 (ap g8 (ap g9 (g10))))))))))
def tt:List (Nat×Nat):=[(2,20),(4,33),(6,45),(8,57),(10,69),(12,81),(14,93),(16,105),(18,117),(23,127),(26,134),(32,141),(37,148),(39,153),(41,160),(43,167),(50,174),(57,181),(59,188),(64,195),(70,202),(74,209),(82,216),(87,223),(93,230),(98,237),(103,244),(110,251),(113,258),(131,265),(134,272),(139,279),(142,286),(145,293),(154,300),(156,307),(161,314),(164,321),(175,328),(182,335),(186,340),(193,347),(195,354),(197,361),(199,368),(201,375),(203,382),(206,389),(208,396),(220,403),(224,410),(228,417),(234,424),(245,431),(248,438),(251,445),(254,452),(259,459),(267,466),(276,473),(280,480),(286,487),(296,492),(301,499),(303,504),(311,509),(315,516),(322,523),(328,530),(330,537),(340,544),(342,551),(345,558),(349,565),(352,572),(357,579),(365,586),(374,591),(379,596),(389,603),(395,610),(397,617),(399,624),(404,631),(412,638),(418,645),(420,652),(427,659),(441,666),(450,673),(468,680),(476,687),(481,694),(487,699)]
def s0:O:=gd (Z "__name__" 165 (.str "law_thinwood_k73_nodes_of_texts" 1069)::tk gg 109) 110
def l0:O:=λP=>(.mk (.type "tuple") none (.seq #[] 0) #[])
def s1:O:=tb (tk tt 94)
def l1:O:=λP=>(.mk (.type "code") none (.fields #[(.str "<module>" 182),(.str "<module>" 183),(.str "/claim/cut.py" 184),(.int 1 0),(.int 0 0),(.int 0 0),(.int 0 0),(.int 0 0),(.ref 11),(.bool .false),(.int 181 0),(.ref 12),.none,.none,.none,.none,(.int 185 0),(.int 1 0),(.str "/claim/cut.py" 186)]) #[])
def l2:O:=λP=>(.mk (.type "frame") none .plain #[(some (.ref 13)),(some (.ref 3)),(some (.ref 3)),none,(some (.str "__main__" 164)),none,(some (.ref 0))])
def l3:O:=λP=>(.mk (.type "tuple") none (.seq #[(.type "ValueError")] 0) #[])
def l4:O:=λP=>(.mk (.type "builtin_function_or_method") none (.fields #[(.builtin "type.__prepare__"),(.type "type")]) #[])
def l5:O:=λP=>(.mk (.type "dict") none (.dict #[(.mk (PyData.keyHash P "__module__") (.str "__module__" 196) (.str "thinwood.errors" 187)),(.mk (PyData.keyHash P "__qualname__") (.str "__qualname__" 198) (.str "WoodError" 197)),(.mk (PyData.keyHash P "__firstlineno__") (.str "__firstlineno__" 200) (.int 2 199)),(.mk (PyData.keyHash P "__static_attributes__") (.str "__static_attributes__" 201) (.ref 22))] 4) #[])
def l6:O:=λP=>(.mk .none none (.fields #[]) #[])
def l7:O:=λP=>(.mk (.type "code") none (.fields #[(.str "WoodError" 191),(.str "WoodError" 192),(.str "/claim/cut.py" 193),(.int 2 0),(.int 0 0),(.int 0 0),(.int 0 0),(.int 0 0),(.ref 18),(.bool .false),(.int 181 0),(.ref 19),.none,.none,.none,.none,(.int 194 0),(.int 2 0),(.str "/claim/cut.py" 195)]) #[])
def l8:O:=λP=>(.mk (.type "frame") none .plain #[(some (.ref 20)),(some (.ref 3)),(some (.ref 17)),none,(some (.str "thinwood.errors" 187)),none,(some (.ref 0))])
def l9:O:=λP=>(.mk (.type "dict") none (.dict #[(.mk (PyData.keyHash P "__module__") (.str "__module__" 196) (.str "thinwood.errors" 187)),(.mk (PyData.keyHash P "__firstlineno__") (.str "__firstlineno__" 200) (.int 2 199)),(.mk (PyData.keyHash P "__static_attributes__") (.str "__static_attributes__" 201) (.ref 22)),(.mk (PyData.keyHash P "__weakref__") (.str "__weakref__" 203) (.ref 25)),(.mk (PyData.keyHash P "__doc__") (.str "__doc__" 204) .none)] 3) #[])
def l10:O:=λP=>(.mk (.type "type") none (.cls (.mk "WoodError" [(.type "ValueError")] [(.ref 24),(.type "ValueError"),(.type "Exception"),(.type "BaseException"),(.type "object")] 23 "WoodError" .true [] [(.ref 37),(.ref 49),(.ref 61),(.ref 73),(.ref 85),(.ref 97),(.ref 109),(.ref 121)] .false none .false)) #[(some (.ref 15)),none,(some (.str "WoodError" 189)),(some (.str "WoodError" 197)),(some (.builtin "ValueError.__new__")),(some (.bool .true))])
def l11:O:=λP=>(.mk (.type "getset_descriptor") none (.fields #[(.str "__weakref__" 202),(.ref 24),(.builtin "ExceptionGroup.__weakref__"),.none]) #[])
def l12:O:=λP=>(.mk (.type "super") none (.fields #[(.ref 24),(.ref 24),(.ref 24)]) #[])
def l13:O:=λP=>(.mk (.type "builtin_function_or_method") none (.fields #[(.builtin "object.__init_subclass__"),(.ref 24)]) #[])
def d1:List O:=h0 207 4 28 "TooMany"
def d2:List O:=h0 223 6 40 "NoBit"
def d3:List O:=h0 239 8 52 "NoPlace"
def d4:List O:=h0 255 10 64 "NoNode"
def d5:List O:=h0 271 12 76 "NoTree"
def d6:List O:=h0 287 14 88 "NoSign"
def d7:List O:=h0 303 16 100 "NoWord"
def d8:List O:=h0 319 18 112 "Twice"
def d9:List O:=h1 13 341 23 1 124 335 "packed" "thinwood.blocks"
def d10:List O:=h2 347 14 26 1 129 352 335 ["bits","bit"] "check_row" "thinwood.blocks"
def d11:List O:=h2 355 15 32 1 136 361 335 ["bits","block","bit"] "block_of" "thinwood.blocks"
def d12:List O:=h2 364 16 37 2 143 369 335 ["block","k"] "bit_in" "thinwood.blocks"
def d13:List O:=h1 17 372 39 2 150 335 "bits_of" "thinwood.blocks"
def d14:List O:=h2 378 18 41 2 155 383 335 ["block","upto"] "ones_in" "thinwood.blocks"
def d15:List O:=h2 386 19 43 2 162 394 335 ["block","nth","ones","k","bit"] "one_in" "thinwood.blocks"
def d16:List O:=h2 397 20 50 2 169 405 335 ["block","upto","nets","net","bit"] "nets_of" "thinwood.blocks"
def d17:List O:=h2 408 21 57 2 176 413 335 ["block","upto"] "low_in" "thinwood.blocks"
def d18:List O:=h2 416 22 59 4 183 425 335 ["block","start","stop","goal","k","net"] "first_low_in" "thinwood.blocks"
def d19:List O:=h2 428 23 64 4 190 438 335 ["block","start","stop","goal","found","k","net"] "last_low_in" "thinwood.blocks"
def l14:O:=λP=>(.mk (.type "tuple") none (.seq #[(.str "look" 444),(.str "first" 445)] 0) #[])
def l15:O:=λP=>(.mk (.type "tuple") none (.seq #[(.str "look" 446),(.str "first" 447)] 0) #[])
def l16:O:=λP=>(.mk .none none (.func (FuncData.mk "look_from" "look_from" (L2.ν (Tw.top 24)) (FuncBody.stmts (L2.μ (Tw.top 24))) (L2.δ (Tw.top 24)) 0 [] .none .none .none .none none .none .none 0)) #[])
def l17:O:=λP=>(.mk (.type "code") none (.fields #[(.str "look_from" 441),(.str "look_from" 442),(.str "/claim/cut.py" 443),(.int 70 0),(.int 2 0),(.int 0 0),(.int 0 0),(.int 3 0),(.ref 197),(.bool .true),(.int 181 0),(.ref 198),.none,(.ref 199),(.ref 200),(.ref 201),(.int 448 0),(.int 70 0),(.str "/claim/cut.py" 449)]) #[])
def l18:O:=λP=>(.mk (.type "function") none (.func (FuncData.mk "look_from" "look_from" (L2.ν (Tw.top 24)) (FuncBody.stmts (L2.μ (Tw.top 24))) (L2.δ (Tw.top 24)) 3 [] .none .none .none (.str "thinwood.blocks" 335) none (.ref 202) .none 0)) #[])
def d21:List O:=h2 455 27 74 1 204 462 451 ["numbers","size","nodes","node"] "heap_of" "thinwood.heaps"
def d22:List O:=h2 465 28 82 1 211 470 451 ["many","size"] "size_of" "thinwood.heaps"
def d23:List O:=h2 473 29 87 2 218 478 451 ["one","other"] "lesser_of" "thinwood.heaps"
def d24:List O:=h2 481 30 93 4 225 489 451 ["many","look","start","goal","node"] "first_at_most" "thinwood.heaps"
def d25:List O:=h2 492 31 98 4 232 500 451 ["many","look","stop","goal","node"] "last_at_most" "thinwood.heaps"
def d26:List O:=h2 503 32 103 5 239 512 451 ["size","look","node","goal","side","found"] "place_beneath" "thinwood.heaps"
def d27:List O:=h2 515 33 110 3 246 521 451 ["many","start","stop"] "check_stretch" "thinwood.heaps"
def d28:List O:=h2 524 34 113 3 253 535 451 ["many","start","stop","size","low","high","lefts","rights"] "cover" "thinwood.heaps"
def d29:List O:=h2 540 36 131 1 260 545 538 ["bits","blocks"] "kept_row" "thinwood.rows"
def d30:List O:=h2 548 37 134 1 267 554 538 ["blocks","ahead","block"] "ahead_of" "thinwood.rows"
def d31:List O:=h2 557 38 139 2 274 562 538 ["at","most"] "check_place" "thinwood.rows"
def d32:List O:=h2 565 39 142 3 281 571 538 ["tables","look","at"] "bit_at" "thinwood.rows"
def d33:List O:=h2 574 40 145 3 288 584 538 ["tables","look","at","many","ahead","number","within"] "ones_at" "thinwood.rows"
def d34:List O:=h2 587 41 154 3 295 593 538 ["tables","look","at"] "noughts_at" "thinwood.rows"
def d35:List O:=h2 596 42 156 3 302 604 538 ["tables","look","nth","ahead","number"] "one_place" "thinwood.rows"
def d36:List O:=h2 607 43 161 2 309 612 538 ["nth","many"] "check_nth" "thinwood.rows"
def d37:List O:=h2 615 44 164 2 316 623 538 ["numbers","goal","low","high","middle"] "last_no_greater" "thinwood.rows"
def d38:List O:=h2 628 46 175 1 323 635 626 ["bits","level","at","bit"] "is_tree" "thinwood.brackets"
def d39:List O:=h2 638 47 182 1 330 642 626 ["bits"] "check_brackets" "thinwood.brackets"
def d40:List O:=h1 48 645 186 1 337 626 "kept_brackets" "thinwood.brackets"
def d41:List O:=h2 651 49 193 3 342 657 626 ["tables","number","block"] "low_of" "thinwood.brackets"
def d42:List O:=h2 660 50 195 2 349 665 626 ["tables","number"] "base_of" "thinwood.brackets"
def d43:List O:=h2 668 51 197 2 356 673 626 ["number","at"] "start_within" "thinwood.brackets"
def d44:List O:=h2 676 52 199 2 363 681 626 ["number","upto"] "end_within" "thinwood.brackets"
def d45:List O:=h2 684 53 201 1 370 688 626 ["tables"] "block_count" "thinwood.brackets"
def l19:O:=λP=>(.mk (.type "tuple") none (.seq #[(.str "tables" 694)] 0) #[])
def l20:O:=λP=>(.mk (.type "tuple") none (.seq #[(.str "nodes" 695)] 0) #[])
def l21:O:=λP=>(.mk .none none (.func (FuncData.mk "heap_look" "heap_look" (L2.ν (Tw.top 54)) (FuncBody.stmts (L2.μ (Tw.top 54))) (L2.δ (Tw.top 54)) 0 [] .none .none .none .none none .none .none 0)) #[])
def l22:O:=λP=>(.mk (.type "code") none (.fields #[(.str "heap_look" 691),(.str "heap_look" 692),(.str "/claim/cut.py" 693),(.int 203 0),(.int 1 0),(.int 0 0),(.int 0 0),(.int 3 0),(.ref 377),(.bool .true),(.int 181 0),(.ref 378),.none,(.ref 379),(.ref 380),(.ref 381),(.int 696 0),(.int 203 0),(.str "/claim/cut.py" 697)]) #[])
def l23:O:=λP=>(.mk (.type "function") none (.func (FuncData.mk "heap_look" "heap_look" (L2.ν (Tw.top 54)) (FuncBody.stmts (L2.μ (Tw.top 54))) (L2.δ (Tw.top 54)) 3 [] .none .none .none (.str "thinwood.brackets" 626) none (.ref 382) .none 0)) #[])
def d47:List O:=h2 699 55 206 3 384 705 626 ["tables","look","at"] "height" "thinwood.brackets"
def d48:List O:=h2 708 56 208 4 391 718 626 ["tables","look","at","goal","number","found","further"] "low_behind" "thinwood.brackets"
def d49:List O:=h2 721 57 220 5 398 731 626 ["tables","look","number","at","goal","start","stop"] "first_within" "thinwood.brackets"
def d50:List O:=h2 734 58 224 2 405 739 626 ["number","within"] "place_of_bit" "thinwood.brackets"
def d51:List O:=h2 742 59 228 4 412 750 626 ["tables","look","at","goal","found"] "low_ahead" "thinwood.brackets"
def d52:List O:=h2 753 60 234 4 419 763 626 ["tables","look","upto","goal","number","found","further"] "last_low_upto" "thinwood.brackets"
def d53:List O:=h2 766 61 245 5 426 775 626 ["tables","look","number","upto","goal","stop"] "last_within" "thinwood.brackets"
def d54:List O:=h2 778 62 248 4 433 785 626 ["tables","look","at","bit"] "check_bracket" "thinwood.brackets"
def d55:List O:=h2 788 63 251 3 440 794 626 ["tables","look","at"] "closing" "thinwood.brackets"
def d56:List O:=h2 797 64 254 3 447 803 626 ["tables","look","at"] "opening" "thinwood.brackets"
def d57:List O:=h2 810 67 259 1 454 816 806 ["depths","ahead","depth"] "check_depths" "thinwood.shapes"
def d58:List O:=h2 819 68 267 1 461 826 806 ["depths","bits","unclosed","depth"] "brackets_of" "thinwood.shapes"
def d59:List O:=h2 829 69 276 1 468 833 806 ["depths"] "kept_tree" "thinwood.shapes"
def d60:List O:=h2 840 72 280 1 475 845 836 ["signs","sign"] "check_signs" "thinwood.signs"
def d61:List O:=h2 848 73 286 1 482 857 836 ["signs","kinds","aheads","blocks","bits","row"] "kept_signs" "thinwood.signs"
def d62:List O:=h1 74 860 296 2 489 836 "ranks_among" "thinwood.signs"
def d63:List O:=h2 866 75 301 1 494 870 836 ["kind_count"] "level_count" "thinwood.signs"
def d64:List O:=h1 76 873 303 2 501 836 "level_rows" "thinwood.signs"
def d65:List O:=h1 77 879 311 2 506 836 "parted" "thinwood.signs"
def d66:List O:=h2 885 78 315 2 511 893 836 ["tables","look","levels","first","ahead"] "levels_of" "thinwood.signs"
def d67:List O:=h2 896 79 322 3 518 904 836 ["level","at","bit","row","look"] "place_below" "thinwood.signs"
def d68:List O:=h2 907 80 328 1 525 911 836 ["row"] "nought_count" "thinwood.signs"
def d69:List O:=h2 914 81 330 3 532 924 836 ["tables","look","at","rank","place","level","bit"] "sign_at" "thinwood.signs"
def d70:List O:=h2 929 83 340 1 539 933 927 ["tables"] "node_count" "thinwood.trees"
def d71:List O:=h2 936 84 342 2 546 941 927 ["tables","node"] "check_node" "thinwood.trees"
def d72:List O:=h2 944 85 345 3 553 950 927 ["tables","look","at"] "node_at" "thinwood.trees"
def d73:List O:=h2 953 86 349 3 560 959 927 ["tables","look","node"] "place_of" "thinwood.trees"
def d74:List O:=h2 962 87 352 3 567 969 927 ["tables","look","node","behind"] "first_of" "thinwood.trees"
def d75:List O:=h2 972 88 357 3 574 979 927 ["tables","look","node","behind"] "younger_of" "thinwood.trees"
def d76:List O:=h2 988 92 365 1 581 994 982 ["words","word","letter"] "check_words" "thinwood.stores"
def d77:List O:=h1 93 997 374 1 588 982 "beginnings_of" "thinwood.stores"
def d78:List O:=h1 94 1003 379 1 593 982 "parts_of" "thinwood.stores"
def d79:List O:=h2 1009 95 389 1 598 1017 982 ["words","parts","tree","letters","ends"] "kept_store" "thinwood.stores"
def d80:List O:=h2 1020 96 395 1 605 1024 982 ["tables"] "blocks_of_tree" "thinwood.stores"
def d81:List O:=h2 1027 97 397 3 612 1033 982 ["tables","look","node"] "letter_of" "thinwood.stores"
def d82:List O:=h2 1036 98 399 4 619 1044 982 ["tables","look","node","letter","young"] "young_from" "thinwood.stores"
def d83:List O:=h2 1047 99 404 3 626 1056 982 ["tables","look","text","nodes","letter","young"] "line_of" "thinwood.stores"
def d84:List O:=h2 1059 100 412 3 633 1066 982 ["tables","look","text","nodes"] "node_of" "thinwood.stores"
def d85:List O:=h2 1071 102 418 1 640 1075 1069 ["_law_found"] "_law_whole" "law_thinwood_k73_nodes_of_texts"
def d86:List O:=h2 1078 103 420 4 647 1088 1069 ["_law_number","_law_kinds","_law_first","_law_many","_law_word_here","_law_k","_law_at"] "_law_spelt" "law_thinwood_k73_nodes_of_texts"
def d87:List O:=h2 1091 104 427 2 654 1100 1069 ["_law_cell","_law_words_here","_law_number","_law_way","_law_old","_law_at"] "_law_word" "law_thinwood_k73_nodes_of_texts"
def d88:List O:=h2 1103 105 441 1 661 1111 1069 ["_law_script","_law_words_here","_law_room","_law_cell","_law_word_here"] "_law_words" "law_thinwood_k73_nodes_of_texts"
def d89:List O:=h2 1114 106 450 2 668 1123 1069 ["_law_cell","_law_words_here","_law_number","_law_old","_law_way","_law_at"] "_law_text" "law_thinwood_k73_nodes_of_texts"
def l24:O:=λP=>(.mk (.type "tuple") none (.seq #[(.str "_law_blocks" 1129),(.str "_law_seen" 1130),(.str "_law_told" 1131)] 0) #[])
def l25:O:=λP=>(.mk (.type "tuple") none (.seq #[(.str "_law_blocks" 1132),(.str "_law_seen" 1133)] 0) #[])
def l26:O:=λP=>(.mk .none none (.func (FuncData.mk "_law_look" "_law_look" (L2.ν (Tw.top 107)) (FuncBody.stmts (L2.μ (Tw.top 107))) (L2.δ (Tw.top 107)) 0 [] .none .none .none .none none .none .none 0)) #[])
def l27:O:=λP=>(.mk (.type "code") none (.fields #[(.str "_law_look" 1126),(.str "_law_look" 1127),(.str "/claim/cut.py" 1128),(.int 468 0),(.int 2 0),(.int 0 0),(.int 0 0),(.int 3 0),(.ref 675),(.bool .true),(.int 181 0),(.ref 676),.none,(.ref 677),(.ref 678),(.ref 679),(.int 1134 0),(.int 468 0),(.str "/claim/cut.py" 1135)]) #[])
def l28:O:=λP=>(.mk (.type "function") none (.func (FuncData.mk "_law_look" "_law_look" (L2.ν (Tw.top 107)) (FuncBody.stmts (L2.μ (Tw.top 107))) (L2.δ (Tw.top 107)) 3 [] .none .none .none (.str "law_thinwood_k73_nodes_of_texts" 1069) none (.ref 680) .none 0)) #[])
def d91:List O:=h2 1137 108 476 2 682 1143 1069 ["_law_seen","_law_size","_law_number"] "_law_there" "law_thinwood_k73_nodes_of_texts"
def d92:List O:=h2 1146 109 481 1 689 1153 1069 ["_law_words_here","_law_known","_law_word_here","_law_many"] "_law_texts" "law_thinwood_k73_nodes_of_texts"
def d93:List O:=h1 110 1156 487 1 696 1069 "law" "law_thinwood_k73_nodes_of_texts"
def f0:List O:=ap [PySem.W.boot_o_0,PySem.W.boot_o_1,PySem.W.boot_o_2,s0,PySem.W.boot_o_4,PySem.W.boot_o_5,PySem.W.boot_o_6,PySem.W.boot_o_7,PySem.W.boot_o_8,PySem.W.boot_o_9,PySem.W.boot_o_10,l0,s1,l1,l2,l3,l4,l5,l0,l6,l7,l8,l0,l9,l10,l11,l12,l13] (ap d1 (ap d2 (ap d3 (ap d4 (ap d5 (ap d6 (ap d7 (ap d8 (d9)))))))))
def f1:List O:=ap d10 (ap d11 (ap d12 (ap d13 (ap d14 (ap d15 (ap d16 (ap d17 (ap d18 (d19)))))))))
def f2:List O:=ap [l0,l6,l14,l15,l16,l17,l18] (ap d21 (ap d22 (ap d23 (ap d24 (ap d25 (ap d26 (ap d27 (ap d28 (d29)))))))))
def f3:List O:=ap d30 (ap d31 (ap d32 (ap d33 (ap d34 (ap d35 (ap d36 (ap d37 (ap d38 (d39)))))))))
def f4:List O:=ap d40 (ap d41 (ap d42 (ap d43 (ap d44 (ap d45 (ap [l0,l6,l19,l20,l21,l22,l23] (ap d47 (ap d48 (d49)))))))))
def f5:List O:=ap d50 (ap d51 (ap d52 (ap d53 (ap d54 (ap d55 (ap d56 (ap d57 (ap d58 (d59)))))))))
def f6:List O:=ap d60 (ap d61 (ap d62 (ap d63 (ap d64 (ap d65 (ap d66 (ap d67 (ap d68 (d69)))))))))
def f7:List O:=ap d70 (ap d71 (ap d72 (ap d73 (ap d74 (ap d75 (ap d76 (ap d77 (ap d78 (d79)))))))))
def f8:List O:=ap d80 (ap d81 (ap d82 (ap d83 (ap d84 (ap d85 (ap d86 (ap d87 (ap d88 (d89)))))))))
def f9:List O:=ap [l0,l6,l24,l25,l26,l27,l28] (ap d91 (ap d92 (d93)))
def ff:List O:=ap f0 (ap f1 (ap f2 (ap f3 (ap f4 (ap f5 (ap f6 (ap f7 (ap f8 (f9)))))))))
def s2:O:=gd (Z "__name__" 165 (.str "thinwood.errors" 187)::tk gg 9) 10
def l29:O:=λP=>(.mk .none none (.fields #[(.int 2 0),(.int 0 0),(.ref 20)]) #[])
def l30:O:=λP=>(.mk (.type "type") none (.cls (.mk "WoodError" [(.type "ValueError")] [(.ref 24),(.type "ValueError"),(.type "Exception"),(.type "BaseException"),(.type "object")] 23 "WoodError" .true [] [] .false none .false)) #[(some (.ref 15)),none,(some (.str "WoodError" 189)),(some (.str "WoodError" 197)),(some (.builtin "ValueError.__new__")),(some (.bool .true))])
def S_tree_63:Params→PySem.W.BT:=λP=>bt 6 (mp (λx=>x P) (ov (tk ff 28) [(3,s2),(8,l29),(11,l30)]))
def s3:O:=gd (Z "__name__" 165 (.str "thinwood.errors" 187)::tk gg 10) 11
def s4:O:=tb (tk tt 2)
def l31:O:=λP=>(.mk (.type "type") none (.cls (.mk "WoodError" [(.type "ValueError")] [(.ref 24),(.type "ValueError"),(.type "Exception"),(.type "BaseException"),(.type "object")] 23 "WoodError" .true [] [(.ref 37)] .false none .false)) #[(some (.ref 15)),none,(some (.str "WoodError" 189)),(some (.str "WoodError" 197)),(some (.builtin "ValueError.__new__")),(some (.bool .true))])
def S_tree_78:Params→PySem.W.BT:=λP=>bt 7 (mp (λx=>x P) (ov (tk ff 40) [(3,s3),(8,s4),(11,l31)]))
def s5:O:=gd (Z "__name__" 165 (.str "thinwood.errors" 187)::tk gg 11) 12
def s6:O:=tb (tk tt 3)
def l32:O:=λP=>(.mk (.type "type") none (.cls (.mk "WoodError" [(.type "ValueError")] [(.ref 24),(.type "ValueError"),(.type "Exception"),(.type "BaseException"),(.type "object")] 23 "WoodError" .true [] [(.ref 37),(.ref 49)] .false none .false)) #[(some (.ref 15)),none,(some (.str "WoodError" 189)),(some (.str "WoodError" 197)),(some (.builtin "ValueError.__new__")),(some (.bool .true))])
def S_tree_93:Params→PySem.W.BT:=λP=>bt 7 (mp (λx=>x P) (ov (tk ff 52) [(3,s5),(8,s6),(11,l32)]))
def s7:O:=gd (Z "__name__" 165 (.str "thinwood.errors" 187)::tk gg 12) 13
def s8:O:=tb (tk tt 4)
def l33:O:=λP=>(.mk (.type "type") none (.cls (.mk "WoodError" [(.type "ValueError")] [(.ref 24),(.type "ValueError"),(.type "Exception"),(.type "BaseException"),(.type "object")] 23 "WoodError" .true [] [(.ref 37),(.ref 49),(.ref 61)] .false none .false)) #[(some (.ref 15)),none,(some (.str "WoodError" 189)),(some (.str "WoodError" 197)),(some (.builtin "ValueError.__new__")),(some (.bool .true))])
def S_tree_108:Params→PySem.W.BT:=λP=>bt 8 (mp (λx=>x P) (ov (tk ff 64) [(3,s7),(8,s8),(11,l33)]))
def s9:O:=gd (Z "__name__" 165 (.str "thinwood.errors" 187)::tk gg 13) 14
def s10:O:=tb (tk tt 5)
def l34:O:=λP=>(.mk (.type "type") none (.cls (.mk "WoodError" [(.type "ValueError")] [(.ref 24),(.type "ValueError"),(.type "Exception"),(.type "BaseException"),(.type "object")] 23 "WoodError" .true [] [(.ref 37),(.ref 49),(.ref 61),(.ref 73)] .false none .false)) #[(some (.ref 15)),none,(some (.str "WoodError" 189)),(some (.str "WoodError" 197)),(some (.builtin "ValueError.__new__")),(some (.bool .true))])
def S_tree_123:Params→PySem.W.BT:=λP=>bt 8 (mp (λx=>x P) (ov (tk ff 76) [(3,s9),(8,s10),(11,l34)]))
def s11:O:=gd (Z "__name__" 165 (.str "thinwood.errors" 187)::tk gg 14) 15
def s12:O:=tb (tk tt 6)
def l35:O:=λP=>(.mk (.type "type") none (.cls (.mk "WoodError" [(.type "ValueError")] [(.ref 24),(.type "ValueError"),(.type "Exception"),(.type "BaseException"),(.type "object")] 23 "WoodError" .true [] [(.ref 37),(.ref 49),(.ref 61),(.ref 73),(.ref 85)] .false none .false)) #[(some (.ref 15)),none,(some (.str "WoodError" 189)),(some (.str "WoodError" 197)),(some (.builtin "ValueError.__new__")),(some (.bool .true))])
def S_tree_138:Params→PySem.W.BT:=λP=>bt 8 (mp (λx=>x P) (ov (tk ff 88) [(3,s11),(8,s12),(11,l35)]))
def s13:O:=gd (Z "__name__" 165 (.str "thinwood.errors" 187)::tk gg 15) 16
def s14:O:=tb (tk tt 7)
def l36:O:=λP=>(.mk (.type "type") none (.cls (.mk "WoodError" [(.type "ValueError")] [(.ref 24),(.type "ValueError"),(.type "Exception"),(.type "BaseException"),(.type "object")] 23 "WoodError" .true [] [(.ref 37),(.ref 49),(.ref 61),(.ref 73),(.ref 85),(.ref 97)] .false none .false)) #[(some (.ref 15)),none,(some (.str "WoodError" 189)),(some (.str "WoodError" 197)),(some (.builtin "ValueError.__new__")),(some (.bool .true))])
def S_tree_153:Params→PySem.W.BT:=λP=>bt 8 (mp (λx=>x P) (ov (tk ff 100) [(3,s13),(8,s14),(11,l36)]))
def s15:O:=gd (Z "__name__" 165 (.str "thinwood.errors" 187)::tk gg 16) 17
def s16:O:=tb (tk tt 8)
def l37:O:=λP=>(.mk (.type "type") none (.cls (.mk "WoodError" [(.type "ValueError")] [(.ref 24),(.type "ValueError"),(.type "Exception"),(.type "BaseException"),(.type "object")] 23 "WoodError" .true [] [(.ref 37),(.ref 49),(.ref 61),(.ref 73),(.ref 85),(.ref 97),(.ref 109)] .false none .false)) #[(some (.ref 15)),none,(some (.str "WoodError" 189)),(some (.str "WoodError" 197)),(some (.builtin "ValueError.__new__")),(some (.bool .true))])
def S_tree_168:Params→PySem.W.BT:=λP=>bt 8 (mp (λx=>x P) (ov (tk ff 112) [(3,s15),(8,s16),(11,l37)]))
def s17:O:=gd (Z "__name__" 165 (.str "thinwood.blocks" 335)::tk gg 24) 25
def s18:O:=tb (tk tt 14)
def S_tree_214:Params→PySem.W.BT:=λP=>bt 9 (mp (λx=>x P) (ov (tk ff 155) [(3,s17),(8,s18)]))
def s19:O:=gd (Z "__name__" 165 (.str "thinwood.heaps" 451)::tk gg 36) 37
def s20:O:=tb (tk tt 25)
def S_tree_293:Params→PySem.W.BT:=λP=>bt 9 (mp (λx=>x P) (ov (tk ff 232) [(3,s19),(8,s20)]))
def s21:O:=gd (Z "__name__" 165 (.str "thinwood.rows" 538)::tk gg 48) 49
def s22:O:=tb (tk tt 37)
def S_tree_379:Params→PySem.W.BT:=λP=>bt 10 (mp (λx=>x P) (ov (tk ff 316) [(3,s21),(8,s22)]))
def s23:O:=gd (Z "__name__" 165 (.str "thinwood.brackets" 626)::tk gg 60) 61
def s24:O:=tb (tk tt 49)
def S_tree_463:Params→PySem.W.BT:=λP=>bt 10 (mp (λx=>x P) (ov (tk ff 398) [(3,s23),(8,s24)]))
def s25:O:=gd (Z "__name__" 165 (.str "thinwood.signs" 836)::tk gg 73) 74
def s26:O:=tb (tk tt 60)
def S_tree_542:Params→PySem.W.BT:=λP=>bt 10 (mp (λx=>x P) (ov (tk ff 475) [(3,s25),(8,s26)]))
def s27:O:=gd (Z "__name__" 165 (.str "thinwood.trees" 927)::tk gg 86) 87
def s28:O:=tb (tk tt 73)
def S_tree_629:Params→PySem.W.BT:=λP=>bt 11 (mp (λx=>x P) (ov (tk ff 560) [(3,s27),(8,s28)]))
def s29:O:=gd (Z "__name__" 165 (.str "thinwood.stores" 982)::tk gg 100) 101
def s30:O:=tb (tk tt 85)
def S_tree_711:Params→PySem.W.BT:=λP=>bt 11 (mp (λx=>x P) (ov (tk ff 640) [(3,s29),(8,s30)]))
def S_tree_774:Params→PySem.W.BT:=λP=>bt 11 (mp (λx=>x P) (ff))
def S_heap_775:Params→Heap:=λP=>Heap.mk (Array.mk (mp (λx=>x P) (ff))) (.mk [] [] [] 0 [] [] .false #[] [] 0 .false .false .false 0 [2000,10,10] .false 0 .true [] [] 0 .false)
def S_sts_49:List Stmt:=tk (List.drop 0 PySem.Challenge.pw_thinwood_k73_nodes_of_texts.main.body) 2
def S_sts_64:List Stmt:=tk (List.drop 2 PySem.Challenge.pw_thinwood_k73_nodes_of_texts.main.body) 1
def S_sts_79:List Stmt:=tk (List.drop 3 PySem.Challenge.pw_thinwood_k73_nodes_of_texts.main.body) 1
def S_sts_94:List Stmt:=tk (List.drop 4 PySem.Challenge.pw_thinwood_k73_nodes_of_texts.main.body) 1
def S_sts_109:List Stmt:=tk (List.drop 5 PySem.Challenge.pw_thinwood_k73_nodes_of_texts.main.body) 1
def S_sts_124:List Stmt:=tk (List.drop 6 PySem.Challenge.pw_thinwood_k73_nodes_of_texts.main.body) 1
def S_sts_139:List Stmt:=tk (List.drop 7 PySem.Challenge.pw_thinwood_k73_nodes_of_texts.main.body) 1
def S_sts_154:List Stmt:=tk (List.drop 8 PySem.Challenge.pw_thinwood_k73_nodes_of_texts.main.body) 1
def S_sts_169:List Stmt:=tk (List.drop 9 PySem.Challenge.pw_thinwood_k73_nodes_of_texts.main.body) 9
def S_sts_215:List Stmt:=tk (List.drop 18 PySem.Challenge.pw_thinwood_k73_nodes_of_texts.main.body) 13
def S_sts_294:List Stmt:=tk (List.drop 31 PySem.Challenge.pw_thinwood_k73_nodes_of_texts.main.body) 13
def S_sts_380:List Stmt:=tk (List.drop 44 PySem.Challenge.pw_thinwood_k73_nodes_of_texts.main.body) 13
def S_sts_464:List Stmt:=tk (List.drop 57 PySem.Challenge.pw_thinwood_k73_nodes_of_texts.main.body) 15
def S_sts_543:List Stmt:=tk (List.drop 72 PySem.Challenge.pw_thinwood_k73_nodes_of_texts.main.body) 14
def S_sts_630:List Stmt:=tk (List.drop 86 PySem.Challenge.pw_thinwood_k73_nodes_of_texts.main.body) 15
def S_sts_712:List Stmt:=tk (List.drop 101 PySem.Challenge.pw_thinwood_k73_nodes_of_texts.main.body) 10
def S_view:Program:={ PySem.Challenge.pw_thinwood_k73_nodes_of_texts with main:={ PySem.Challenge.pw_thinwood_k73_nodes_of_texts.main with body:=mp Tw.top [1,2,3,4,5,6,7,8,9,11,12,13,14,15,16,17,18,19,20,21,22,23,24,26,27,28,29,30,31,32,33,34,36,37,38,39,40,41,42,43,44,46,47,48,49,50,51,52,53,54,55,56,57,58,59,60,61,62,63,64,66,67,68,69,71,72,73,74,75,76,77,78,79,80,81,83,84,85,86,87,88,90,91,92,93,94,95,96,97,98,99,100,102,103,104,105,106,107,108,109,110] } }
end
end Tp
theorem PySem.W.Fast.tw14598715356260435866:True:=trivial
noncomputable abbrev PySem.W.Fast.tw2423041570725510360:PySem.Program:=PySem.Challenge.pw_thinwood_k73_nodes_of_texts
theorem PySem.W.Fast.te2423041570725510360:PySem.Challenge.pw_thinwood_k73_nodes_of_texts = PySem.W.Fast.tw2423041570725510360:=rfl
lay_quick Tp.g0 Tp.g1 Tp.g2 Tp.g3 Tp.g4 Tp.g5 Tp.g6 Tp.g7 Tp.g8 Tp.g9 Tp.g10 Tp.gg Tp.s0 Tp.l0 Tp.s1 Tp.l1 Tp.l2 Tp.l3 Tp.l4 Tp.l5 Tp.l6 Tp.l7 Tp.l8 Tp.l9 Tp.l10 Tp.l11 Tp.l12 Tp.l13 Tp.d1 Tp.d2 Tp.d3 Tp.d4 Tp.d5 Tp.d6 Tp.d7 Tp.d8 Tp.d9 Tp.d10 Tp.d11 Tp.d12
lay_quick Tp.d13 Tp.d14 Tp.d15 Tp.d16 Tp.d17 Tp.d18 Tp.d19 Tp.l14 Tp.l15 Tp.l16 Tp.l17 Tp.l18 Tp.d21 Tp.d22 Tp.d23 Tp.d24 Tp.d25 Tp.d26 Tp.d27 Tp.d28 Tp.d29 Tp.d30 Tp.d31 Tp.d32 Tp.d33 Tp.d34 Tp.d35 Tp.d36 Tp.d37 Tp.d38 Tp.d39 Tp.d40 Tp.d41 Tp.d42 Tp.d43 Tp.d44 Tp.d45 Tp.l19 Tp.l20 Tp.l21
lay_quick Tp.l22 Tp.l23 Tp.d47 Tp.d48 Tp.d49 Tp.d50 Tp.d51 Tp.d52 Tp.d53 Tp.d54 Tp.d55 Tp.d56 Tp.d57 Tp.d58 Tp.d59 Tp.d60 Tp.d61 Tp.d62 Tp.d63 Tp.d64 Tp.d65 Tp.d66 Tp.d67 Tp.d68 Tp.d69 Tp.d70 Tp.d71 Tp.d72 Tp.d73 Tp.d74 Tp.d75 Tp.d76 Tp.d77 Tp.d78 Tp.d79 Tp.d80 Tp.d81 Tp.d82 Tp.d83 Tp.d84
lay_quick Tp.d85 Tp.d86 Tp.d87 Tp.d88 Tp.d89 Tp.l24 Tp.l25 Tp.l26 Tp.l27 Tp.l28 Tp.d91 Tp.d92 Tp.d93 Tp.f0 Tp.f1 Tp.f2 Tp.f3 Tp.f4 Tp.f5 Tp.f6 Tp.f7 Tp.f8 Tp.f9 Tp.ff Tp.s2 Tp.l29 Tp.l30 Tp.S_tree_63 Tp.s3 Tp.s4 Tp.l31 Tp.S_tree_78 Tp.s5 Tp.s6 Tp.l32 Tp.S_tree_93 Tp.s7 Tp.s8 Tp.l33 Tp.S_tree_108
lay_quick Tp.s9 Tp.s10 Tp.l34 Tp.S_tree_123 Tp.s11 Tp.s12 Tp.l35 Tp.S_tree_138 Tp.s13 Tp.s14 Tp.l36 Tp.S_tree_153 Tp.s15 Tp.s16 Tp.l37 Tp.S_tree_168 Tp.s17 Tp.s18 Tp.S_tree_214 Tp.s19 Tp.s20 Tp.S_tree_293 Tp.s21 Tp.s22 Tp.S_tree_379 Tp.s23 Tp.s24 Tp.S_tree_463 Tp.s25 Tp.s26 Tp.S_tree_542 Tp.s27 Tp.s28 Tp.S_tree_629 Tp.s29 Tp.s30 Tp.S_tree_711 Tp.S_tree_774 Tp.S_heap_775 Tp.S_sts_49
lay_quick Tp.S_sts_64 Tp.S_sts_79 Tp.S_sts_94 Tp.S_sts_109 Tp.S_sts_124 Tp.S_sts_139 Tp.S_sts_154 Tp.S_sts_169 Tp.S_sts_215 Tp.S_sts_294 Tp.S_sts_380 Tp.S_sts_464 Tp.S_sts_543 Tp.S_sts_630 Tp.S_sts_712 Tp.S_view
namespace Tp
open PySem PySem.W.Fast
end Tp
namespace PySem.W.Fast
open PySem Tp
noncomputable section
abbrev tw13449319834229216362:Params→BT:=tw11432227658251013801
theorem te13449319834229216362:S_tree_63=tw13449319834229216362:=te11432227658251013801
abbrev tw12870648281400815636:Params→BT:=tw16269510630359031336
theorem te12870648281400815636:S_tree_78=tw12870648281400815636:=te16269510630359031336
abbrev tw4379731678619288942:Params→BT:=tw5549918322004914887
theorem te4379731678619288942:S_tree_93=tw4379731678619288942:=te5549918322004914887
abbrev tw660903187854337421:Params→BT:=tw10118726668083288838
theorem te660903187854337421:S_tree_108=tw660903187854337421:=te10118726668083288838
abbrev tw12868485183654546305:Params→BT:=tw244363406318419850
theorem te12868485183654546305:S_tree_123=tw12868485183654546305:=te244363406318419850
abbrev tw1344071220659086787:Params→BT:=tw12417361858070979987
theorem te1344071220659086787:S_tree_138=tw1344071220659086787:=te12417361858070979987
abbrev tw3657012312906657651:Params→BT:=tw863085786592867233
theorem te3657012312906657651:S_tree_153=tw3657012312906657651:=te863085786592867233
abbrev tw13390557169951735743:Params→BT:=tw12361961019411380784
theorem te13390557169951735743:S_tree_168=tw13390557169951735743:=te12361961019411380784
abbrev tw14740218350231127374:Params→BT:=tw15182629654053833429
theorem te14740218350231127374:S_tree_214=tw14740218350231127374:=te15182629654053833429
abbrev tw10028887469690529367:Params→BT:=tw12245342217616203890
theorem te10028887469690529367:S_tree_293=tw10028887469690529367:=te12245342217616203890
abbrev tw11151432375397358917:Params→BT:=tw4133028062932887595
theorem te11151432375397358917:S_tree_379=tw11151432375397358917:=te4133028062932887595
abbrev tw10907945880101990611:Params→BT:=tw2418749235743013393
theorem te10907945880101990611:S_tree_463=tw10907945880101990611:=te2418749235743013393
abbrev tw356387965408692248:Params→BT:=tw8019352753043950259
theorem te356387965408692248:S_tree_542=tw356387965408692248:=te8019352753043950259
abbrev tw11219593700560535578:Params→BT:=tw312731823271726943
theorem te11219593700560535578:S_tree_629=tw11219593700560535578:=te312731823271726943
abbrev tw7021145552534011129:Params→BT:=tw290473345607435562
theorem te7021145552534011129:S_tree_711=tw7021145552534011129:=te290473345607435562
abbrev tw6753067106849816019:Params→BT:=tw11315495278564414462
theorem te6753067106849816019:S_tree_774=tw6753067106849816019:=te11315495278564414462
abbrev tw645271878369048998:Params→Heap:=tw15721910625375522324
theorem te645271878369048998:S_heap_775=tw645271878369048998:=te15721910625375522324
abbrev tw14488956907512456660:List Stmt:=tw666750322614274432
theorem te14488956907512456660:S_sts_49=tw14488956907512456660:=te666750322614274432
abbrev tw10316860255518306245:List Stmt:=tw5768192320520425421
theorem te10316860255518306245:S_sts_64=tw10316860255518306245:=te5768192320520425421
abbrev tw17845536949791692646:List Stmt:=tw16161987442105222805
theorem te17845536949791692646:S_sts_79=tw17845536949791692646:=te16161987442105222805
abbrev tw16830065483924076684:List Stmt:=tw11682420065776883047
theorem te16830065483924076684:S_sts_94=tw16830065483924076684:=te11682420065776883047
abbrev tw12638953257884780984:List Stmt:=tw5728941507444464575
theorem te12638953257884780984:S_sts_109=tw12638953257884780984:=te5728941507444464575
abbrev tw8190333572591193151:List Stmt:=tw3506674074365841151
theorem te8190333572591193151:S_sts_124=tw8190333572591193151:=te3506674074365841151
abbrev tw12135631243679943726:List Stmt:=tw11501099722331979331
theorem te12135631243679943726:S_sts_139=tw12135631243679943726:=te11501099722331979331
abbrev tw9499830541295339470:List Stmt:=tw13451323129798551695
theorem te9499830541295339470:S_sts_154=tw9499830541295339470:=te13451323129798551695
abbrev tw17626378686735445582:List Stmt:=tw8446481660639318910
theorem te17626378686735445582:S_sts_169=tw17626378686735445582:=te8446481660639318910
abbrev tw13236998808131981853:List Stmt:=tw15213887431938716785
theorem te13236998808131981853:S_sts_215=tw13236998808131981853:=te15213887431938716785
abbrev tw15086912925918188397:List Stmt:=tw1349057676744220601
theorem te15086912925918188397:S_sts_294=tw15086912925918188397:=te1349057676744220601
abbrev tw13086794095430465827:List Stmt:=tw6718965177019799211
theorem te13086794095430465827:S_sts_380=tw13086794095430465827:=te6718965177019799211
abbrev tw5451045368865028955:List Stmt:=tw13526298096046685889
theorem te5451045368865028955:S_sts_464=tw5451045368865028955:=te13526298096046685889
abbrev tw8924558206021517700:List Stmt:=tw4865800672744059054
theorem te8924558206021517700:S_sts_543=tw8924558206021517700:=te4865800672744059054
abbrev tw2981829576084099437:List Stmt:=tw16650737794908445876
theorem te2981829576084099437:S_sts_630=tw2981829576084099437:=te16650737794908445876
abbrev tw5332083768846184461:List Stmt:=tw2048079380110223079
theorem te5332083768846184461:S_sts_712=tw5332083768846184461:=te2048079380110223079
abbrev tw9380995270883638640:Program:=tw11325136443342628617
theorem te9380995270883638640:S_view=tw9380995270883638640:=te11325136443342628617
theorem te517753833071136789:True:=trivial
end
end PySem.W.Fast
open PySem PySem.W PyProof.Rows
set_option maxRecDepth 100000 in
set_option maxHeartbeats 0 in
theorem PySem.Challenge.cw_thinwood_k73_nodes_of_texts_holds : PySem.Challenge.rw_thinwood_k73_nodes_of_texts.Holds := by
 w_on;o_law;k_head;(case hw=>w_witness2)
 k_fill
 refine L2.JS (l:=PySem.Challenge.rw_thinwood_k73_nodes_of_texts) (n:=63) (k:=14) (x := "_law_script") rfl (by decide) rfl ⟨rfl,by decide,by decide⟩ (λw h Y=>PySem.W.km_in_of Y) ?F
 case F =>
  intro w mg mb mean fa h KX TT hmg
  refine' Tw.Qo KX TT hmg ?d0 ?d1 ?d2 ?d3 ?d4 ?d5 ?d6 ?d7 ?d8 ?d9 ?d10 ?a11 ?l11 ?ZX ?k11 ?ZZ ?Z0 ?Xg ?d12 ?d13 ?d14 ?d15 ?d16 ?d17 ?d18 ?d19 ?Z1 ?d21 ?d22 ?d23 ?d24 ?d25 ?d26 ?d27 ?d28 ?d29 ?d30 ?d31 ?d32 ?d33 ?d34 ?d35 ?d36 ?a37 ?l37 ?Z2 ?Z3 ?Z4 ?Z5 ?Xh ?d38 ?d39 ?d40 ?d41 ?d42 ?d43 ?d44 ?d45 ?Z6 ?d47 ?d48 ?d49 ?d50 ?d51 ?d52 ?d53 ?d54 ?d55 ?d56 ?d57 ?d58 ?d59 ?d60 ?d61 ?d62 ?d63 ?d64 ?d65 ?d66 ?d67 ?d68 ?d69 ?d70 ?d71 ?d72 ?d73 ?d74 ?d75 ?d76 ?d77 ?d78 ?d79 ?d80 ?Yi ?Yj ?Z7 ?Z8 ?Z9 ?abZ ?Xi ?d82 ?d83 ?d84 ?afw ?ab0 ?afD ?abo ?afE ?afx ?afF ?afG ?afb ?acB ?afH ?aex ?afI ?afc ?afJ ?abp ?adV ?ab1 ?aaC ?abq ?aaD ?abr ?Yk ?adW ?adX ?acC ?acD ?acE ?acF ?acG ?acH ?acI ?X6 ?X7 ?nt ?aak ?aam ?aan
  (case d0|d1|d2|d3|d4|d5|d6|d7|d8|d9|d10|d12|d13|d14|d15|d16|d17|d18|d19|Z1|d21|d22|d23|d24|d25|d26|d27|d28|d29|d30|d31|d32|d33|d34|d35|d36|d38|d39|d40|d41|d42|d43|d44|d45|Z6|d47|d48|d49|d50|d51|d52|d53|d54|d55|d56|d57|d58|d59|d60|d61|d62|d63|d64|d65|d66|d67|d68|d69|d70|d71|d72|d73|d74|d75|d76|d77|d78|d79|d80|d82|d83|d84=>exact⟨by k_is,L2.zz (by k_is) (by k_is) (by k_is)⟩);(case a11=>k_is);(case l11=>k_is);(case ZX=>k_is);(case k11=>k_is);(case ZZ=>k_is);(case Z0=>rfl);(case Xg=>exact⟨_,rfl⟩);(case a37=>k_is);(case l37=>k_is);(case Z2=>k_is);(case Z3=>k_is);(case Z4=>k_is);(case Z5=>rfl);(case Xh=>exact⟨_,rfl⟩);(case Yi=>k_is);(case Yj=>k_is);(case Z7=>k_is);(case Z8=>k_is);(case Z9=>k_is);(case abZ=>rfl);(case Xi=>exact⟨_,rfl⟩);(case afw=>k_is);(case ab0=>k_is);(case afD=>k_is);(case abo=>k_is);(case afE=>k_is);(case afx=>k_is);(case afF=>k_is);(case afG=>k_is);(case afb=>k_is);(case acB=>k_is);(case afH=>k_is);(case aex=>k_is);(case afI=>k_is);(case afc=>k_is);(case afJ=>k_is);(case abp=>k_is);(case adV=>k_is);(case ab1=>k_is);(case aaC=>k_is);(case abq=>k_is);(case aaD=>k_is);(case abr=>k_is);(case Yk=>k_is);(case adW=>k_exc);(case adX=>k_is);(case acC=>k_is);(case acD=>k_is);(case acE=>k_is);(case acF=>k_is);(case acG=>k_is);(case acH=>k_is);(case acI=>k_is);(case X6=>kit_is);(case X7=>kit_is);(case nt=>kernel_rfl);(case aak=>decide);(case aam=>decide);(case aan=>decide)
